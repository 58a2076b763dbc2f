/- The document's layer 17: Few, at, Check. -/
import Derived.Test.YtdcpekkkenckeaaChMem
import Derived.Deep.QuietTactic
import Derived.BigQuiet
namespace Go.Proofs.Ytdcpekkkenckeaa
open Go.RowKit Go.Proofs.ShM Go.Proofs.GrM Go.Proofs.ImM Go.Proofs.ChM
set_option linter.unusedVariables false
set_option maxRecDepth 100000
set_option maxHeartbeats 4000000

def fewC (l : List Nd) : Bool := l.all (fun v => fewV v.2.1.length v.2.2.length) && decide ((l.length : Int) ≤ 30)
theorem allN_drop {p : Nd → Bool} {ts : List Nd} {k : Nat} (h : k < ts.length) : (ts.drop k).all p = (p (ts.getD k nd0) && (ts.drop (k + 1)).all p) := by
  rw [List.drop_eq_getElem_cons h, List.getD_eq_getElem?_getD, List.getElem?_eq_getElem h]; rfl
theorem rfew17_any (A : Option Addr) (n c : Nat) (l : List Nd) (w : World) (h : RdG w A l) (hn : n = l.length) {q : Bool} (hq : fewC l = q) :
    Calls Try.prog 9 #[.slice A n c] w fun e w' => e = .returned (.bool q) ∧ Kp w w' := by
  subst hn
  have hl := h.len
  have HRD := Lib.hid h
  obtain ⟨r, hr⟩ : ∃ r, r = fewC l := ⟨_, rfl⟩
  have HF : Hid (∀ (A B : Option Addr) (c d n m : Nat) (W : World), n ≤ 9223372036854775807 → m ≤ 9223372036854775807 → Calls Try.prog 10 #[.agg #[.slice A n c, .slice B m d]] W fun e w' => e = .returned (.bool (fewV n m)) ∧ Kp W w') := fun A B c d n m W h g => few_any A B c d n m W h g
  have HR := Lib.hid hr
  rw [← hq, ← hr]
  clear hr h hq
  go_enter Try.func9, Try.ntmps9
  go_wp2
  go_loopw [3] (fun i wx => ∃ k : Nat, i = .int .i64 (k : Int) ∧ Hid (k ≤ l.length) ∧ Hid (r = ((l.drop k).all (fun t => fewV t.2.1.length t.2.2.length) && decide ((l.length : Int) ≤ 30))) ∧ Hid (Kp w wx)) (fun i _ => l.length - (intOf i).toNat)
  case atStart => exact ⟨0, rfl, Nat.zero_le _, HR.out, Kp.refl _⟩
  case round =>
    obtain ⟨k, rfl, hk, hT, hK⟩ := hrel
    by_cases hj : k < l.length
    · have hj' : (k : Int) < (l.length : Int) := by omega
      obtain ⟨ad, P, e, Q, f, rfl, hlt, hc0, hc1, hc2, hTR⟩ := (HRD.out.kp hK.out).atv hj
      have hd := allN_drop (p := fun t : Nd => fewV t.2.1.length t.2.2.length) hj
      have HC := Lib.hid (HF.out P Q e f (l.getD k nd0).2.1.length (l.getD k nd0).2.2.length wr hTR.r.s.len hTR.r.d.len)
      obtain ⟨q, hq⟩ : ∃ q, q = fewV (l.getD k nd0).2.1.length (l.getD k nd0).2.2.length := ⟨_, rfl⟩
      rw [← hq] at HC hd
      have HD := Lib.hid hd
      generalize (l.getD k nd0).2.1.length = x1 at hc1 HC
      generalize (l.getD k nd0).2.2.length = x2 at hc2 HC
      clear hd hq hTR
      cases q with
      | true =>
        have HT2 : Hid (r = ((l.drop (k + 1)).all (fun t => fewV t.2.1.length t.2.2.length) && decide ((l.length : Int) ≤ 30))) := by show r = _; rw [hT.out, HD.out]; simp
        go_wp2_with fail
        refine (Hid.out HC).mono ?_; rintro e w5 ⟨rfl, k5⟩
        have K5 := Lib.hid (hK.out.tr k5)
        clear k5 HC
        go_wp2
        go_roundw
        case rel => exact ⟨k + 1, by go_num, (by show k + 1 ≤ l.length; omega), HT2.out, K5.out⟩
        case measure => simp [intOf]; omega
      | false =>
        have HT2 : Hid (r = false) := by show r = _; rw [hT.out, HD.out]; simp
        go_wp2_with fail
        refine (Hid.out HC).mono ?_; rintro e w5 ⟨rfl, k5⟩
        have K5 := Lib.hid (hK.out.tr k5)
        clear k5 HC
        go_wp2
        go_ret
        exact ⟨by rw [HT2.out]; rfl, K5.out⟩
    · have hj' : ¬ (k : Int) < (l.length : Int) := by omega
      have HT2 : Hid (r = decide ((l.length : Int) ≤ 30)) := by show r = _; rw [hT.out, List.drop_eq_nil_of_le (by omega)]; simp
      go_wp2
      go_ret
      exact ⟨by rw [HT2.out]; rfl, hK.out⟩

theorem atF_drop {l : List Nd} {k : Nat} {s out : Int} (h : k < l.length) : atF s (l.drop k) k out = atF s (l.drop (k + 1)) (k + 1) (if (l.getD k nd0).1 ≤ s then (k : Int) else out) := by
  rw [List.drop_eq_getElem_cons h, List.getD_eq_getElem?_getD, List.getElem?_eq_getElem h]; rfl
theorem rat17_any (A : Option Addr) (n c : Nat) (l : List Nd) (s : Int) (w : World) (h : RdG w A l) (hn : n = l.length) {q : Int} (hq : atC l s = q) :
    Calls Try.prog 26 #[.slice A n c, .int .i64 s] w fun e w' => e = .returned (.int .i64 q) ∧ w' = w := by
  subst hn
  have hl := h.len
  have HRD := Lib.hid h
  obtain ⟨r, hr⟩ : ∃ r, r = atC l s := ⟨_, rfl⟩
  have HR : Hid (r = atF s (l.drop 0) 0 (-1)) := hr
  rw [← hq, ← hr]
  clear hr h hq
  go_enter Try.func26, Try.ntmps26
  go_wp2
  go_loopw [5, 6] (fun o i wx => ∃ (k : Nat) (out : Int), o = .int .i64 out ∧ i = .int .i64 (k : Int) ∧ Hid (k ≤ l.length) ∧ Hid (r = atF s (l.drop k) k out) ∧ Hid (wx = w)) (fun _ i _ => l.length - (intOf i).toNat)
  case atStart => exact ⟨0, -1, rfl, rfl, Nat.zero_le _, HR.out, rfl⟩
  case round =>
    obtain ⟨k, out, rfl, rfl, hk, hT, hK⟩ := hrel
    obtain rfl := hK.out
    by_cases hj : k < l.length
    · have hj' : (k : Int) < (l.length : Int) := by omega
      obtain ⟨ad, P, e, Q, f, rfl, hlt, hc0, hc1, hc2, hTR⟩ := HRD.out.atv hj
      have hd := atF_drop (s := s) (out := out) hj
      clear hc1 hc2 hTR
      obtain ⟨x, hx⟩ : ∃ x, x = (l.getD k nd0).1 := ⟨_, rfl⟩
      rw [← hx] at hc0 hd
      by_cases hs : x ≤ s
      · have HT2 : Hid (r = atF s (l.drop (k + 1)) (k + 1) (k : Int)) := by show r = _; rw [hT.out, hd, if_pos hs]
        clear hd hx
        go_wp2
        go_roundw
        case rel => exact ⟨k + 1, _, rfl, by go_num, (by show k + 1 ≤ l.length; omega), HT2.out, trivial⟩
        case measure => simp [intOf]; omega
      · have HT2 : Hid (r = atF s (l.drop (k + 1)) (k + 1) out) := by show r = _; rw [hT.out, hd, if_neg hs]
        clear hd hx
        go_wp2
        go_roundw
        case rel => exact ⟨k + 1, _, rfl, by go_num, (by show k + 1 ≤ l.length; omega), HT2.out, trivial⟩
        case measure => simp [intOf]; omega
    · have hj' : ¬ (k : Int) < (l.length : Int) := by omega
      have HT2 : Hid (r = out) := by show r = _; rw [hT.out, List.drop_eq_nil_of_le (by omega)]; rfl
      go_wp2
      go_ret
      exact ⟨by rw [HT2.out]; rfl, rfl⟩

/-! ### Check -/
def chkF (l : List Nd) (k : Nat) : Bool := decide (l.length ≤ 16 ∧ ∀ i, i < l.length → k ≤ i → verB l i = true)
theorem chkF_start (l : List Nd) : chkV l = chkF l 0 := by
  unfold chkV chkF
  exact decide_eq_decide.2 ⟨fun h => ⟨h.1, fun i hi _ => h.2 i hi⟩, fun h => ⟨h.1, fun i hi => h.2 i hi (Nat.zero_le _)⟩⟩
theorem chkF_step {l : List Nd} {k : Nat} (h : k < l.length) : chkF l k = (verB l k && chkF l (k + 1)) := by
  cases e : verB l k with
  | false =>
    rw [Bool.false_and]
    exact decide_eq_false fun g => by rw [g.2 k h (Nat.le_refl _)] at e; cases e
  | true =>
    rw [Bool.true_and]
    exact decide_eq_decide.2 ⟨fun g => ⟨g.1, fun i hi hk => g.2 i hi (by omega)⟩, fun g => ⟨g.1, fun i hi hk => by
      by_cases hik : i = k
      · rw [hik]; exact e
      · exact g.2 i hi (by omega)⟩⟩
theorem chkF_end {l : List Nd} {k : Nat} (h : l.length ≤ k) : chkF l k = decide ((l.length : Int) ≤ 16) :=
  decide_eq_decide.2 ⟨fun g => by have := g.1; omega, fun g => ⟨by omega, fun i hi hk => by omega⟩⟩
/-- Whether a version may stand at a place, test by test. -/
theorem verB_eq (l : List Nd) (k : Nat) : verB l k = (tokT (l.getD k nd0).2 && (decide (0 ≤ (l.getD k nd0).1) && (decide (k = 0) || (decide ((l.getD (k - 1) nd0).1 < (l.getD k nd0).1) && ((l.getD k nd0).2.1 == (l.getD 0 nd0).2.1))))) := by
  unfold verB; rw [Bool.and_assoc]
theorem rcheck17_any (A : Option Addr) (n c : Nat) (l : List Nd) (w : World) (h : RdG w A l) (hn : n = l.length) {q : Bool} (hq : chkV l = q) :
    Calls Try.prog 18 #[.slice A n c] w fun e w' => e = .returned (.bool q) ∧ Kp w w' := by
  subst hn
  have hl := h.len
  have HRD := Lib.hid h
  obtain ⟨r, hr⟩ : ∃ r, r = chkV l := ⟨_, rfl⟩
  have HR : Hid (r = chkF l 0) := by show r = _; rw [hr, chkF_start]
  rw [← hq, ← hr]
  clear hr h hq
  go_enter Try.func18, Try.ntmps18
  go_wp2
  go_loopw [3] (fun i wx => ∃ k : Nat, i = .int .i64 (k : Int) ∧ Hid (k ≤ l.length) ∧ Hid (r = chkF l k) ∧ Hid (Kp w wx)) (fun i _ => l.length - (intOf i).toNat)
  case atStart => exact ⟨0, rfl, Nat.zero_le _, HR.out, Kp.refl _⟩
  case round =>
    obtain ⟨k, rfl, hk, hT, hK⟩ := hrel
    by_cases hj : k < l.length
    · have hj' : (k : Int) < (l.length : Int) := by omega
      obtain ⟨ad, P, e, Q, f, rfl, hlt, hc0, hc1, hc2, hTR⟩ := (HRD.out.kp hK.out).atv hj
      have hd := chkF_step hj
      rw [verB_eq] at hd
      have HC : Hid (Calls Try.prog 29 #[.agg #[.slice P (l.getD k nd0).2.1.length e, .slice Q (l.getD k nd0).2.2.length f]] wr fun e w' => e = .returned (.bool (tokT (l.getD k nd0).2)) ∧ Kp wr w') := rtcheck_any P Q e f _ _ wr hTR.r.s hTR.r.d
      have hcell : ∀ V, Kp wr V → V.cell? (ad.add (k * 3)) = some (.int .i64 (l.getD k nd0).1) ∧ V.cell? ⟨(ad.add (k * 3)).block, (ad.add (k * 3)).off + 1, none⟩ = some (.slice P (l.getD k nd0).2.1.length e) := fun V kV =>
        ⟨(kV.cell (by rw [block_of_add]; exact hlt)).trans hc0, (kV.cell (by rw [block_of_add]; exact hlt)).trans hc1⟩
      have HP : Hid (∀ V, Kp wr V → Rd V P (l.getD k nd0).2.1) := fun V kV => hTR.r.s.kp kV
      have HQ := Lib.hid hcell
      obtain ⟨q, hq⟩ : ∃ q, q = tokT (l.getD k nd0).2 := ⟨_, rfl⟩
      obtain ⟨x, hx⟩ : ∃ x, x = (l.getD k nd0).1 := ⟨_, rfl⟩
      rw [← hq] at HC hd
      rw [← hx] at HQ hc0 hd
      obtain ⟨s1, hs1⟩ : ∃ s1, s1 = (l.getD k nd0).2.1 := ⟨_, rfl⟩
      rw [← hs1] at HC HQ hc1 hd HP
      obtain ⟨n1, hn1⟩ : ∃ n1, n1 = s1.length := ⟨_, rfl⟩
      rw [← hn1] at HC HQ hc1
      obtain ⟨n2, hn2⟩ : ∃ n2, n2 = (l.getD k nd0).2.2.length := ⟨_, rfl⟩
      rw [← hn2] at HC hc2
      have HN1 := Lib.hid hn1
      have HX := Lib.hid hx
      have HS1 := Lib.hid hs1
      clear hcell hq hx hs1 hn1 hn2 hTR
      have no : ∀ W m, Kp w W → r = false → (Ending.returned (Value.bool false) = Ending.returned (Value.bool r) ∧ Kp w (World.drewN W m)) := fun W m kW e => ⟨by rw [e], kW.tr (Kp.drewN_ _ _)⟩
      have HNO := Lib.hid no
      clear no
      cases q with
      | false =>
        have HT2 : Hid (r = false) := by show r = _; rw [hT.out, hd]; rfl
        clear hd
        go_wp2_with fail
        refine (Hid.out HC).mono ?_; rintro e w5 ⟨rfl, k5⟩
        have K5 := Lib.hid (hK.out.tr k5)
        clear k5 HC
        go_wp2_with fail
        go_quiet (fail)
        go_wp2
        go_ret
        exact HNO.out _ _ K5.out HT2.out
      | true =>
        by_cases hs0 : x < 0
        · have hs0' : decide (x < 0) = true := decide_eq_true hs0
          have HT2 : Hid (r = false) := by show r = _; rw [hT.out, hd, show decide (0 ≤ x) = false from decide_eq_false (by omega)]; rfl
          clear hd
          go_wp2_with fail
          refine (Hid.out HC).mono ?_; rintro e w5 ⟨rfl, k5⟩
          have q0 := (HQ.out _ k5).1
          have K5 := Lib.hid (hK.out.tr k5)
          clear k5 HC
          go_wp2_with fail
          go_quiet (fail)
          go_wp2
          go_ret
          exact HNO.out _ _ K5.out HT2.out
        · have hs0' : decide (x < 0) = false := decide_eq_false hs0
          have hd0 : decide (0 ≤ x) = true := decide_eq_true (by omega)
          rw [hd0] at hd
          by_cases hk0 : k = 0
          · subst hk0
            have e0 : ad.add (0 * 3) = ad := by unfold Addr.add; simp
            rw [e0] at hc0 hc1 hc2 HQ
            replace hc2 : wr.cell? ⟨ad.block, ad.off + 1 + 1, none⟩ = some (.slice Q n2 f) := hc2
            clear e0
            have HT2 : Hid (r = chkF l (0 + 1)) := by show r = _; rw [hT.out, hd]; rfl
            clear hd
            go_wp2_with fail
            refine (Hid.out HC).mono ?_; rintro e w5 ⟨rfl, k5⟩
            have q0 := (HQ.out _ k5).1
            have K5 := Lib.hid (hK.out.tr k5)
            clear k5 HC
            go_wp2_with fail
            go_quiet (fail)
            go_wp2
            go_roundw
            case rel => exact ⟨0 + 1, by go_num, (by show 0 + 1 ≤ l.length; omega), HT2.out, K5.out.tr (Kp.drewN_ _ _)⟩
            case measure => simp [intOf]; omega
          · obtain ⟨j, rfl⟩ : ∃ j, k = j + 1 := ⟨k - 1, by omega⟩
            obtain ⟨ad', P', e', Q', f', ea, _, hp0, _, _, _⟩ := (HRD.out.kp hK.out).atv (show j < l.length by omega)
            injection ea with ea
            subst ea
            obtain ⟨ad', R, g, Q'', f'', ea, _, _, hz1, _, hTZ⟩ := (HRD.out.kp hK.out).atv (show 0 < l.length by omega)
            injection ea with ea
            subst ea
            have e0 : ad.add (0 * 3) = ad := by unfold Addr.add; simp
            rw [e0] at hz1
            obtain ⟨p, hp⟩ : ∃ p, p = (l.getD j nd0).1 := ⟨_, rfl⟩
            obtain ⟨sz, hsz⟩ : ∃ sz, sz = (l.getD 0 nd0).2.1 := ⟨_, rfl⟩
            rw [Nat.add_sub_cancel, ← hp, ← hsz, show decide (j + 1 = 0) = false from decide_eq_false (by omega)] at hd
            rw [← hp] at hp0
            rw [← hsz] at hz1
            have HZ : Hid (∀ V, Kp wr V → Rd V R sz) := fun V kV => by rw [hsz]; exact hTZ.r.s.kp kV
            obtain ⟨nz, hnz⟩ : ∃ nz, nz = sz.length := ⟨_, rfl⟩
            rw [← hnz] at hz1
            have HNZ := Lib.hid hnz
            have hlt3 : ad.block < wr.heap.size := hlt
            have HQ2 : Hid (∀ V, Kp wr V → V.cell? (ad.add (j * 3)) = some (.int .i64 p) ∧ V.cell? ⟨ad.block, ad.off + 1, none⟩ = some (.slice R nz g)) := fun V kV =>
              ⟨(kV.cell (by rw [block_of_add]; exact hlt3)).trans hp0, (kV.cell (show (⟨ad.block, ad.off + 1, none⟩ : Addr).block < _ from hlt3)).trans hz1⟩
            clear e0 hp hsz hnz hTZ hp0 hz1 hk0
            by_cases hpx : x ≤ p
            · have hpx' : decide (x ≤ p) = true := decide_eq_true hpx
              have HT2 : Hid (r = false) := by show r = _; rw [hT.out, hd, show decide (p < x) = false from decide_eq_false (by omega)]; rfl
              clear hd
              go_wp2_with fail
              refine (Hid.out HC).mono ?_; rintro e w5 ⟨rfl, k5⟩
              have q0 := (HQ.out _ k5).1
              have q1 := (HQ2.out _ k5).1
              have K5 := Lib.hid (hK.out.tr k5)
              clear k5 HC
              go_wp2_with fail
              go_quiet (fail)
              go_wp2
              go_ret
              exact HNO.out _ _ K5.out HT2.out
            · have hpx' : decide (x ≤ p) = false := decide_eq_false hpx
              rw [show decide (p < x) = true from decide_eq_true (by omega)] at hd
              obtain ⟨b, hb⟩ : ∃ b, b = (s1 == sz) := ⟨_, rfl⟩
              rw [← hb] at hd
              have HSM : Hid (∀ V n, Kp wr V → Calls Try.prog 23 #[.slice P n1 e, .slice R nz g] (V.drewN n) fun e w'' => e = .returned (.bool b) ∧ ∃ m, w'' = V.drewN m) := fun V n kV =>
                (same_n (c := e) (d := g) s1 sz ((HP.out V kV).drewN n) ((HZ.out V kV).drewN n) HN1.out HNZ.out hb.symm).mono fun _ _ ⟨he, m, hm⟩ => ⟨he, n + m, by rw [hm]; exact World.drewN_drewN _ _ _⟩
              have HD := Lib.hid hd
              clear hd hb HN1 HNZ HP HZ
              cases b with
              | false =>
                have HT2 : Hid (r = false) := by show r = _; rw [hT.out, HD.out]; rfl
                go_wp2_with fail
                refine (Hid.out HC).mono ?_; rintro e w5 ⟨rfl, k5⟩
                have q0 := (HQ.out _ k5).1
                have q3 := (HQ.out _ k5).2
                have q1 := (HQ2.out _ k5).1
                have q2 := (HQ2.out _ k5).2
                have HS5 : Hid (∀ n, Calls Try.prog 23 #[.slice P n1 e, .slice R nz g] (w5.drewN n) fun e w'' => e = .returned (.bool false) ∧ ∃ m, w'' = w5.drewN m) := fun n => HSM.out _ _ k5
                have K5 := Lib.hid (hK.out.tr k5)
                clear k5 HC
                go_wp2_with fail
                go_quiet ((go_at_call 23; exact HS5.out _))
                go_wp2
                go_ret
                exact HNO.out _ _ K5.out HT2.out
              | true =>
                have HT2 : Hid (r = chkF l (j + 1 + 1)) := by show r = _; rw [hT.out, HD.out]; rfl
                go_wp2_with fail
                refine (Hid.out HC).mono ?_; rintro e w5 ⟨rfl, k5⟩
                have q0 := (HQ.out _ k5).1
                have q3 := (HQ.out _ k5).2
                have q1 := (HQ2.out _ k5).1
                have q2 := (HQ2.out _ k5).2
                have HS5 : Hid (∀ n, Calls Try.prog 23 #[.slice P n1 e, .slice R nz g] (w5.drewN n) fun e w'' => e = .returned (.bool true) ∧ ∃ m, w'' = w5.drewN m) := fun n => HSM.out _ _ k5
                have K5 := Lib.hid (hK.out.tr k5)
                clear k5 HC
                go_wp2_with fail
                go_quiet ((go_at_call 23; exact HS5.out _))
                go_wp2
                go_roundw
                case rel => exact ⟨j + 1 + 1, by go_num, (by show j + 1 + 1 ≤ l.length; omega), HT2.out, K5.out.tr (Kp.drewN_ _ _)⟩
                case measure => simp [intOf]; omega
    · have hj' : ¬ (k : Int) < (l.length : Int) := by omega
      have HT2 : Hid (r = decide ((l.length : Int) ≤ 16)) := by show r = _; rw [hT.out, chkF_end (by omega)]
      go_wp2
      go_ret
      exact ⟨by rw [HT2.out]; rfl, hK.out⟩
end Go.Proofs.Ytdcpekkkenckeaa
