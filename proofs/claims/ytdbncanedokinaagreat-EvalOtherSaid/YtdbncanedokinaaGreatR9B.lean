/- The document's layer 9: Same. -/
import Derived.Test.YtdbncanedokinaaGreatR9A
import Derived.Deep.RegionHeld3
namespace Go.Proofs.YtdbncanedokinaaGreat
open Go.RowKit Go.Proofs.ShM Go.Proofs.PkM Go.Proofs.ImM
set_option linter.unusedVariables false
set_option maxRecDepth 100000
set_option maxHeartbeats 4000000

theorem drop_beq {a b : List T} {k : Nat} {t u : T} (ht : a[k]? = some t) (hu : b[k]? = some u) : (a.drop k == b.drop k) = (((t.1 == u.1) && (t.2 == u.2)) && (a.drop (k + 1) == b.drop (k + 1))) := by
  obtain ⟨h, e⟩ := List.getElem?_eq_some_iff.1 ht
  obtain ⟨g, f⟩ := List.getElem?_eq_some_iff.1 hu
  rw [List.drop_eq_getElem_cons h, List.drop_eq_getElem_cons g, e, f]
  rfl
theorem undrew9 {w w' : World} (h : Kp w.drew w') : Kp w w' := (Kp.drewN_ w 1).tr h
theorem rsame9_any (A B : Option Addr) (c d : Nat) (a b : List T) (w : World) (hA : RdT w A a) (hB : RdT w B b) :
    Calls Tryz.prog 12 #[.slice A a.length c, .slice B b.length d] w fun e w' => e = .returned (.bool (a == b)) ∧ Kp w w' := by
  have la := hA.len
  have lb := hB.len
  have HRA := Lib.hid hA
  have HRB := Lib.hid hB
  clear hA hB
  by_cases hl : a.length = b.length
  · obtain ⟨r, hr⟩ : ∃ r, r = (a == b) := ⟨_, rfl⟩
    have HR : Hid (r = (a.drop 0 == b.drop 0)) := hr
    rw [← hr]
    have hl' : Hid (a.length = b.length) := hl
    obtain ⟨n, hn⟩ : ∃ n, n = a.length := ⟨_, rfl⟩
    have hnb : n = b.length := by omega
    have HN := Lib.hid (And.intro hn hnb)
    rw [← hn, ← hnb]
    have hln : n ≤ 9223372036854775807 := by omega
    clear hr hl hn hnb la lb
    go_enter Tryz.func12, Tryz.ntmps12
    go_wp2
    go_loopw [5] (fun i wx => ∃ k : Nat, i = .int .i64 (k : Int) ∧ Hid (k ≤ n) ∧ Hid (r = (a.drop k == b.drop k)) ∧ Hid (Kp w wx)) (fun i _ => n - (intOf i).toNat)
    case atStart => exact ⟨0, rfl, Nat.zero_le _, HR.out, Kp.refl _⟩
    case round =>
      obtain ⟨k, rfl, hk, hT, hK⟩ := hrel
      by_cases hj : k < n
      · have hj' : (k : Int) < (n : Int) := by omega
        obtain ⟨ad, t, P, e, Q, f, rfl, hlt, ht, hc1, hc2, hTR⟩ := (HRA.out.kp hK.out).at_ (show k < a.length by rw [← HN.out.1]; exact hj)
        obtain ⟨ae, u, R, g, S, h, rfl, hlt2, hu, hc3, hc4, hTR2⟩ := (HRB.out.kp hK.out).at_ (show k < b.length by rw [← HN.out.2]; exact hj)
        have hd := drop_beq ht hu
        obtain ⟨W1, hW1⟩ : ∃ W1, W1 = wr := ⟨_, rfl⟩
        have HC : Hid (Calls Tryz.prog 15 #[.agg #[.slice P t.1.length e, .slice Q t.2.length f], .agg #[.slice R u.1.length g, .slice S u.2.length h]] wr.drew fun e w' => e = .returned (.bool ((t.1 == u.1) && (t.2 == u.2))) ∧ Kp wr.drew w') := tsame_any P Q R S e f g h t.1 t.2 u.1 u.2 wr.drew hTR.s hTR.d hTR2.s hTR2.d
        obtain ⟨q, hq⟩ : ∃ q, q = ((t.1 == u.1) && (t.2 == u.2)) := ⟨_, rfl⟩
        rw [← hq] at HC hd
        have HD := Lib.hid hd
        clear hd hq ht hu hW1 hTR hTR2
        have hc1' : wr.drew.cell? (ad.add (k * 2)) = some (.slice P t.1.length e) := hc1
        have hc2' : wr.drew.cell? ⟨(ad.add (k * 2)).block, (ad.add (k * 2)).off + 1, none⟩ = some (.slice Q t.2.length f) := hc2
        have hc3' : wr.drew.cell? (ae.add (k * 2)) = some (.slice R u.1.length g) := hc3
        have hc4' : wr.drew.cell? ⟨(ae.add (k * 2)).block, (ae.add (k * 2)).off + 1, none⟩ = some (.slice S u.2.length h) := hc4
        have HQ : Hid (∀ V, Kp wr.drew V → V.cell? (ad.add (k * 2)) = some (.slice P t.1.length e) ∧ V.cell? ⟨(ad.add (k * 2)).block, (ad.add (k * 2)).off + 1, none⟩ = some (.slice Q t.2.length f) ∧ V.cell? (ae.add (k * 2)) = some (.slice R u.1.length g) ∧ V.cell? ⟨(ae.add (k * 2)).block, (ae.add (k * 2)).off + 1, none⟩ = some (.slice S u.2.length h)) := fun V kV =>
          ⟨(kV.cell (by rw [block_of_add]; exact hlt)).trans hc1', (kV.cell (by rw [block_of_add]; exact hlt)).trans hc2', (kV.cell (by rw [block_of_add]; exact hlt2)).trans hc3', (kV.cell (by rw [block_of_add]; exact hlt2)).trans hc4'⟩
        go_upto_region 6 with fail
        go_cut [6] (fun v6 wx => v6 = .bool q ∧ Hid (Kp w wx))
        case first =>
          go_region_held3 (fun V => V.cell? (ad.add (k * 2)) = some (.slice P t.1.length e) ∧ V.cell? ⟨(ad.add (k * 2)).block, (ad.add (k * 2)).off + 1, none⟩ = some (.slice Q t.2.length f) ∧ V.cell? (ae.add (k * 2)) = some (.slice R u.1.length g) ∧ V.cell? ⟨(ae.add (k * 2)).block, (ae.add (k * 2)).off + 1, none⟩ = some (.slice S u.2.length h)) (first | exact ⟨hc1', hc2', hc3', hc4'⟩ | exact q1)
            (first | (refine (Hid.out HC).mono ?_; rintro e w5 ⟨rfl, k5⟩; have q1 := HQ.out _ k5; have K5 : Hid (Kp w w5) := hK.out.tr (undrew9 k5); clear k5))
          all_goals
            go_wp2
            go_meet
            exact ⟨rfl, K5.out⟩
        case rest =>
          obtain ⟨rfl, hK6⟩ := hcut
          clear HQ HC hc1 hc2 hc3 hc4 hc1' hc2' hc3' hc4'
          cases q with
          | true =>
            have HT2 : Hid (r = (a.drop (k + 1) == b.drop (k + 1))) := by show r = _; rw [hT.out, HD.out]; rfl
            go_wp2
            go_roundw
            case rel => exact ⟨k + 1, by go_num, (by show k + 1 ≤ n; omega), HT2.out, hK6.out⟩
            case measure => simp [intOf]; omega
          | false =>
            have HT2 : Hid (r = false) := by show r = _; rw [hT.out, HD.out]; rfl
            go_wp2
            go_ret
            exact ⟨by rw [HT2.out]; rfl, hK6.out⟩
      · have hj' : ¬ (k : Int) < (n : Int) := by omega
        have HT2 : Hid (r = true) := by show r = _; rw [hT.out, List.drop_eq_nil_of_le (by rw [← HN.out.1]; omega), List.drop_eq_nil_of_le (by rw [← HN.out.2]; omega)]; rfl
        go_wp2
        go_ret
        exact ⟨by rw [HT2.out]; rfl, hK.out⟩
  · have hne : ((a.length : Int) != (b.length : Int)) = true := by simp; omega
    have hab : (a == b) = false := by rw [beq_eq_false_iff_ne]; intro e; exact hl (by rw [e])
    rw [hab]
    clear hl hab
    go_enter Tryz.func12, Tryz.ntmps12
    go_wp2
    go_ret
    exact ⟨rfl, Kp.refl _⟩
end Go.Proofs.YtdbncanedokinaaGreat
