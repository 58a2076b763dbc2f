/- The document's layer 10: Same. -/
import Derived.Test.YtdcgmnkoomhocaaGrAll
import Derived.Deep.QuietTactic
import Derived.BigQuiet
namespace Go.Proofs.Ytdcgmnkoomhocaa
open Go.RowKit Go.Proofs.ShM Go.Proofs.GrM
set_option linter.unusedVariables false
set_option maxHeartbeats 4000000

theorem drop_beqN {a b : List Nd} {k : Nat} {t u : Nd} (ht : a[k]? = some t) (hu : b[k]? = some u) : (a.drop k == b.drop k) = (((t.1 == u.1) && ((t.2.1 == u.2.1) && (t.2.2 == u.2.2))) && (a.drop (k + 1) == b.drop (k + 1))) := by
  obtain ⟨h, e⟩ := List.getElem?_eq_some_iff.1 ht
  obtain ⟨g, f⟩ := List.getElem?_eq_some_iff.1 hu
  rw [List.drop_eq_getElem_cons h, List.drop_eq_getElem_cons g, e, f]
  rfl
theorem quiet10S {f : FuncId} {args : Array Value} {w : World} {n : Nat} {v : Value} (h : Calls Try.prog f args (w.drewN n) fun e w' => e = .returned v ∧ ∃ m, w' = (w.drewN n).drewN m) :
    Calls Try.prog f args (w.drewN n) fun e w'' => e = .returned v ∧ ∃ m, w'' = w.drewN m := h.mono fun _ _ ⟨he, m, hm⟩ => ⟨he, n + m, by rw [hm]; exact World.drewN_drewN _ _ _⟩
set_option maxRecDepth 100000 in
theorem rsame10_q (A B : Option Addr) (c d : Nat) (a b : List Nd) (w : World) (hA : RdG w A a) (hB : RdG w B b) :
    Calls Try.prog 13 #[.slice A a.length c, .slice B b.length d] w fun e w' => e = .returned (.bool (a == b)) ∧ ∃ n, w' = w.drewN n := by
  have la := hA.len
  have lb := hB.len
  have HRA := Lib.hid hA
  have HRB := Lib.hid hB
  clear hA hB
  by_cases hl : a.length = b.length
  · obtain ⟨r, hr⟩ : ∃ r, r = (a == b) := ⟨_, rfl⟩
    have HR : Hid (r = (a.drop 0 == b.drop 0)) := hr
    rw [← hr]
    obtain ⟨n, hn⟩ : ∃ n, n = a.length := ⟨_, rfl⟩
    have hnb : n = b.length := by omega
    have HN := Lib.hid (And.intro hn hnb)
    rw [← hn, ← hnb]
    have hln : n ≤ 9223372036854775807 := by omega
    have e0 : ((n : Int) != (n : Int)) = false := by simp
    clear hr hl hn hnb la lb
    go_enter Try.func13, Try.ntmps13
    go_wp2
    go_loopw [5] (fun i wx => ∃ k : Nat, i = .int .i64 (k : Int) ∧ Hid (k ≤ n) ∧ Hid (r = (a.drop k == b.drop k)) ∧ Hid (∃ j, wx = w.drewN j)) (fun i _ => n - (intOf i).toNat)
    case atStart => exact ⟨0, rfl, Nat.zero_le _, HR.out, 0, rfl⟩
    case round =>
      obtain ⟨k, rfl, hk, hT, hJ⟩ := hrel
      have KW : Hid (Kp w wr) := by
        obtain ⟨j, e⟩ := hJ.out
        show Kp w wr
        rw [e]; exact Kp.drewN_ _ _
      have HE : Hid (∀ m, ∃ j, wr.drewN m = w.drewN j) := fun m => by
        obtain ⟨j, e⟩ := hJ.out
        exact ⟨j + m, by rw [e]; exact World.drewN_drewN _ _ _⟩
      have HE2 : Hid (∀ m k, ∃ j, (wr.drewN m).drewN k = w.drewN j) := fun m k => by
        obtain ⟨j, e⟩ := HE.out m
        exact ⟨j + k, by rw [e]; exact World.drewN_drewN _ _ _⟩
      by_cases hj : k < n
      · have hj' : (k : Int) < (n : Int) := by omega
        obtain ⟨ad, t, P, e, Q, f, rfl, hlt, ht, hc0, hc1, hc2, hN, _, _⟩ := (HRA.out.kp KW.out).at_ (show k < a.length by rw [← HN.out.1]; exact hj)
        obtain ⟨ae, u, R, g, S, h, rfl, hlt2, hu, hc3, hc4, hc5, hN2, _, _⟩ := (HRB.out.kp KW.out).at_ (show k < b.length by rw [← HN.out.2]; exact hj)
        have hd := drop_beqN ht hu
        obtain ⟨o1, a1, n1⟩ := t
        obtain ⟨o2, a2, n2⟩ := u
        dsimp only at hc0 hc1 hc2 hc3 hc4 hc5 hd hN hN2
        have HS1 : Hid (∀ W, Rd W P a1 → Rd W R a2 → Calls Try.prog 24 #[.slice P a1.length e, .slice R a2.length g] W fun e w' => e = .returned (.bool (a1 == a2)) ∧ ∃ n, w' = W.drewN n) := fun W g1 g2 => same_any P R e g a1 a2 W g1 g2
        have HS2 : Hid (∀ W, Rd W Q n1 → Rd W S n2 → Calls Try.prog 24 #[.slice Q n1.length f, .slice S n2.length h] W fun e w' => e = .returned (.bool (n1 == n2)) ∧ ∃ n, w' = W.drewN n) := fun W g1 g2 => same_any Q S f h n1 n2 W g1 g2
        have HNN := Lib.hid (And.intro hN hN2)
        obtain ⟨x1, hx1⟩ : ∃ x1, x1 = (o1 != o2) := ⟨_, rfl⟩
        obtain ⟨x2, hx2⟩ : ∃ x2, x2 = (a1 == a2) := ⟨_, rfl⟩
        obtain ⟨x3, hx3⟩ : ∃ x3, x3 = (n1 == n2) := ⟨_, rfl⟩
        have hx1' : (o1 == o2) = !x1 := by rw [hx1]; simp [bne]
        rw [← hx2] at HS1
        rw [← hx3] at HS2
        rw [hx1', ← hx2, ← hx3] at hd
        have HD := Lib.hid hd
        replace hx1 := hx1.symm
        obtain ⟨l1, hl1⟩ : ∃ l1, l1 = a1.length := ⟨_, rfl⟩
        obtain ⟨l2, hl2⟩ : ∃ l2, l2 = a2.length := ⟨_, rfl⟩
        obtain ⟨l3, hl3⟩ : ∃ l3, l3 = n1.length := ⟨_, rfl⟩
        obtain ⟨l4, hl4⟩ : ∃ l4, l4 = n2.length := ⟨_, rfl⟩
        rw [← hl1] at hc1 HS1
        rw [← hl2] at hc4 HS1
        rw [← hl3] at hc2 HS2
        rw [← hl4] at hc5 HS2
        have HQ2 : Hid (∀ m n, Calls Try.prog 24 #[.slice Q l3 f, .slice S l4 h] (wr.drewN (m + n)) fun e w'' => e = .returned (.bool x3) ∧ ∃ k, w'' = wr.drewN (m + k)) := fun m n => (HS2.out (wr.drewN (m + n)) (HNN.out.1.rn.drewN _) (HNN.out.2.rn.drewN _)).mono fun _ _ ⟨he, j, hj⟩ => ⟨he, n + j, by rw [hj, World.drewN_drewN, Nat.add_assoc]⟩
        clear hd ht hu hN hN2 hx1' hx2 hx3 hl1 hl2 hl3 hl4
        cases x2 with
        | false =>
          have HT2 : Hid (r = false) := by show r = _; rw [hT.out, HD.out]; cases x1 <;> simp
          go_wp2_with fail
          go_quiet ((go_at_call 24; exact quiet10S (HS1.out _ (HNN.out.1.ra.drewN _) (HNN.out.2.ra.drewN _))))
          go_wp2_with fail
          go_quiet (fail)
          go_wp2
          go_ret
          exact ⟨by rw [HT2.out]; rfl, HE2.out _ _⟩
        | true =>
          cases x1 with
          | true =>
            have HT2 : Hid (r = false) := by show r = _; rw [hT.out, HD.out]; simp
            go_wp2_with fail
            go_quiet ((go_at_call 24; exact quiet10S (HS1.out _ (HNN.out.1.ra.drewN _) (HNN.out.2.ra.drewN _))))
            go_wp2_with fail
            go_quiet (fail)
            go_wp2
            go_ret
            exact ⟨by rw [HT2.out]; rfl, HE2.out _ _⟩
          | false =>
            cases x3 with
            | false =>
              have HT2 : Hid (r = false) := by show r = _; rw [hT.out, HD.out]; simp
              go_wp2_with fail
              go_quiet ((go_at_call 24; exact quiet10S (HS1.out _ (HNN.out.1.ra.drewN _) (HNN.out.2.ra.drewN _))))
              go_wp2_with fail
              go_quiet ((go_at_call 24; exact HQ2.out _ _))
              go_wp2
              go_ret
              exact ⟨by rw [HT2.out]; rfl, HE2.out _ _⟩
            | true =>
              have HT2 : Hid (r = (a.drop (k + 1) == b.drop (k + 1))) := by show r = _; rw [hT.out, HD.out]; simp
              go_wp2_with fail
              go_quiet ((go_at_call 24; exact quiet10S (HS1.out _ (HNN.out.1.ra.drewN _) (HNN.out.2.ra.drewN _))))
              go_wp2_with fail
              go_quiet ((go_at_call 24; exact HQ2.out _ _))
              go_wp2
              go_roundw
              case rel => exact ⟨k + 1, by go_num, (by show k + 1 ≤ n; omega), HT2.out, HE.out _⟩
              case measure => simp [intOf]; omega
      · have hj' : ¬ (k : Int) < (n : Int) := by omega
        have HT2 : Hid (r = true) := by show r = _; rw [hT.out, List.drop_eq_nil_of_le (by rw [← HN.out.1]; omega), List.drop_eq_nil_of_le (by rw [← HN.out.2]; omega)]; rfl
        go_wp2
        go_ret
        exact ⟨by rw [HT2.out]; rfl, hJ.out⟩
  · have hne : ((a.length : Int) != (b.length : Int)) = true := by simp; omega
    have hab : (a == b) = false := by rw [beq_eq_false_iff_ne]; intro e; exact hl (by rw [e])
    rw [hab]
    clear hl hab
    go_enter Try.func13, Try.ntmps13
    go_wp2
    go_ret
    exact ⟨rfl, 0, rfl⟩
end Go.Proofs.Ytdcgmnkoomhocaa
