/- The document's layer 17: Same. -/
import Derived.Test.YtdcpekkkenckeaaR17A
import Derived.Deep.RegionHeld3
namespace Go.Proofs.Ytdcpekkkenckeaa
open Go.RowKit Go.Proofs.ShM Go.Proofs.GrM Go.Proofs.ImM Go.Proofs.ChM
set_option linter.unusedVariables false
set_option maxRecDepth 100000
set_option maxHeartbeats 4000000

theorem dropV_beq {a b : List Nd} {k : Nat} (ha : k < a.length) (hb : k < b.length) : (a.drop k == b.drop k) = ((((a.getD k nd0).2.1 == (b.getD k nd0).2.1) && ((a.getD k nd0).2.2 == (b.getD k nd0).2.2)) && (!((a.getD k nd0).1 != (b.getD k nd0).1) && (a.drop (k + 1) == b.drop (k + 1)))) := by
  rw [List.drop_eq_getElem_cons ha, List.drop_eq_getElem_cons hb, List.getD_eq_getElem?_getD, List.getElem?_eq_getElem ha, List.getD_eq_getElem?_getD, List.getElem?_eq_getElem hb]
  show ((a[k].1 == b[k].1 && (a[k].2.1 == b[k].2.1 && a[k].2.2 == b[k].2.2)) && _) = _
  simp only [Option.getD_some, bne, Bool.not_not]
  cases (a[k].1 == b[k].1) <;> cases (a[k].2.1 == b[k].2.1) <;> cases (a[k].2.2 == b[k].2.2) <;> rfl
theorem undrew17 {w w' : World} (h : Kp w.drew w') : Kp w w' := (Kp.drewN_ w 1).tr h
theorem rsame17_any (A B : Option Addr) (n m c d : Nat) (a b : List Nd) (w : World) (hA : RdG w A a) (hB : RdG w B b) (hn : n = a.length) (hm : m = b.length) {q : Bool} (hq : (a == b) = q) :
    Calls Try.prog 16 #[.slice A n c, .slice B m d] w fun e w' => e = .returned (.bool q) ∧ Kp w w' := by
  have la := hA.len
  have lb := hB.len
  have HRA := Lib.hid hA
  have HRB := Lib.hid hB
  clear hA hB
  rw [← hq]
  clear hq
  by_cases hl : a.length = b.length
  · obtain ⟨r, hr⟩ : ∃ r, r = (a == b) := ⟨_, rfl⟩
    have HR : Hid (r = (a.drop 0 == b.drop 0)) := hr
    rw [← hr]
    obtain rfl : n = m := by omega
    have hln : n ≤ 9223372036854775807 := by omega
    have HN := Lib.hid (And.intro hn hm)
    clear hr hl hn hm la lb
    go_enter Try.func16, Try.ntmps16
    go_wp2
    go_loopw [5] (fun i wx => ∃ k : Nat, i = .int .i64 (k : Int) ∧ Hid (k ≤ n) ∧ Hid (r = (a.drop k == b.drop k)) ∧ Hid (Kp w wx)) (fun i _ => n - (intOf i).toNat)
    case atStart => exact ⟨0, rfl, Nat.zero_le _, HR.out, Kp.refl _⟩
    case round =>
      obtain ⟨k, rfl, hk, hT, hK⟩ := hrel
      by_cases hj : k < n
      · have hj' : (k : Int) < (n : Int) := by omega
        have ja : k < a.length := by rw [← HN.out.1]; exact hj
        have jb : k < b.length := by rw [← HN.out.2]; exact hj
        obtain ⟨ad, P, e, Q, f, rfl, hlt, hc0, hc1, hc2, hTR⟩ := (HRA.out.kp hK.out).atv ja
        obtain ⟨ae, R, g, S, h, rfl, hlt2, hc3, hc4, hc5, hTR2⟩ := (HRB.out.kp hK.out).atv jb
        have hd := dropV_beq ja jb
        obtain ⟨t, ht⟩ : ∃ t, t = a.getD k nd0 := ⟨_, rfl⟩
        obtain ⟨u, hu⟩ : ∃ u, u = b.getD k nd0 := ⟨_, rfl⟩
        rw [← ht, ← hu] at hd
        rw [← ht] at hc0 hc1 hc2 hTR
        rw [← hu] at hc3 hc4 hc5 hTR2
        have HC : Hid (Calls Try.prog 15 #[.agg #[.slice P t.2.1.length e, .slice Q t.2.2.length f], .agg #[.slice R u.2.1.length g, .slice S u.2.2.length h]] wr.drew fun e w' => e = .returned (.bool ((t.2.1 == u.2.1) && (t.2.2 == u.2.2))) ∧ Kp wr.drew w') := tsame_any P Q R S e f g h t.2.1 t.2.2 u.2.1 u.2.2 wr.drew hTR.r.s hTR.r.d hTR2.r.s hTR2.r.d
        obtain ⟨q, hq⟩ : ∃ q, q = ((t.2.1 == u.2.1) && (t.2.2 == u.2.2)) := ⟨_, rfl⟩
        obtain ⟨z, hz⟩ : ∃ z, z = (t.1 != u.1) := ⟨_, rfl⟩
        rw [← hq] at HC
        rw [← hq, ← hz] at hd
        have hzz : (t.1 != u.1) = z := hz.symm
        have HD := Lib.hid hd
        clear hd hq hz ht hu hTR hTR2 ja jb
        generalize t.2.1.length = n1 at hc1 HC
        generalize t.2.2.length = n2 at hc2 HC
        generalize u.2.1.length = n3 at hc4 HC
        generalize u.2.2.length = n4 at hc5 HC
        have hc1' : wr.drew.cell? ⟨(ad.add (k * 3)).block, (ad.add (k * 3)).off + 1, none⟩ = some (.slice P n1 e) := hc1
        have hc2' : wr.drew.cell? ⟨(ad.add (k * 3)).block, (ad.add (k * 3)).off + 1 + 1, none⟩ = some (.slice Q n2 f) := hc2
        have hc4' : wr.drew.cell? ⟨(ae.add (k * 3)).block, (ae.add (k * 3)).off + 1, none⟩ = some (.slice R n3 g) := hc4
        have hc5' : wr.drew.cell? ⟨(ae.add (k * 3)).block, (ae.add (k * 3)).off + 1 + 1, none⟩ = some (.slice S n4 h) := hc5
        have HQ : Hid (∀ V, Kp wr.drew V → V.cell? ⟨(ad.add (k * 3)).block, (ad.add (k * 3)).off + 1, none⟩ = some (.slice P n1 e) ∧ V.cell? ⟨(ad.add (k * 3)).block, (ad.add (k * 3)).off + 1 + 1, none⟩ = some (.slice Q n2 f) ∧ V.cell? ⟨(ae.add (k * 3)).block, (ae.add (k * 3)).off + 1, none⟩ = some (.slice R n3 g) ∧ V.cell? ⟨(ae.add (k * 3)).block, (ae.add (k * 3)).off + 1 + 1, none⟩ = some (.slice S n4 h)) := fun V kV =>
          ⟨(kV.cell (by rw [block_of_add]; exact hlt)).trans hc1', (kV.cell (by rw [block_of_add]; exact hlt)).trans hc2', (kV.cell (by rw [block_of_add]; exact hlt2)).trans hc4', (kV.cell (by rw [block_of_add]; exact hlt2)).trans hc5'⟩
        have HQ2 : Hid (∀ V, Kp wr V → V.cell? (ad.add (k * 3)) = some (.int .i64 t.1) ∧ V.cell? (ae.add (k * 3)) = some (.int .i64 u.1)) := fun V kV =>
          ⟨(kV.cell (by rw [block_of_add]; exact hlt)).trans hc0, (kV.cell (by rw [block_of_add]; exact hlt2)).trans hc3⟩
        go_upto_region 6 with fail
        go_cut [6] (fun v6 wx => v6 = .bool q ∧ Hid (Kp wr wx))
        case first =>
          go_region_held3 (fun V => V.cell? ⟨(ad.add (k * 3)).block, (ad.add (k * 3)).off + 1, none⟩ = some (.slice P n1 e) ∧ V.cell? ⟨(ad.add (k * 3)).block, (ad.add (k * 3)).off + 1 + 1, none⟩ = some (.slice Q n2 f) ∧ V.cell? ⟨(ae.add (k * 3)).block, (ae.add (k * 3)).off + 1, none⟩ = some (.slice R n3 g) ∧ V.cell? ⟨(ae.add (k * 3)).block, (ae.add (k * 3)).off + 1 + 1, none⟩ = some (.slice S n4 h)) (first | exact ⟨hc1', hc2', hc4', hc5'⟩ | exact q1)
            (first | (refine (Hid.out HC).mono ?_; rintro e w5 ⟨rfl, k5⟩; have q1 := HQ.out _ k5; have K5 : Hid (Kp wr w5) := undrew17 k5; clear k5))
          all_goals
            go_wp2
            go_meet
            exact ⟨rfl, K5.out⟩
        case rest =>
          obtain ⟨rfl, hK6⟩ := hcut
          have p0 := (HQ2.out _ hK6.out).1
          have p1 := (HQ2.out _ hK6.out).2
          have K6 := Lib.hid (hK.out.tr hK6.out)
          clear HQ HQ2 HC hc0 hc1 hc2 hc3 hc4 hc5 hc1' hc2' hc4' hc5' hK6
          cases q with
          | true =>
            cases z with
            | false =>
              have HT2 : Hid (r = (a.drop (k + 1) == b.drop (k + 1))) := by show r = _; rw [hT.out, HD.out]; rfl
              go_wp2_with fail
              go_quiet (fail)
              go_wp2
              go_roundw
              case rel => exact ⟨k + 1, by go_num, (by show k + 1 ≤ n; omega), HT2.out, K6.out.tr (Kp.drewN_ _ _)⟩
              case measure => simp [intOf]; omega
            | true =>
              have HT2 : Hid (r = false) := by show r = _; rw [hT.out, HD.out]; rfl
              go_wp2_with fail
              go_quiet (fail)
              go_wp2
              go_ret
              exact ⟨by rw [HT2.out]; rfl, K6.out.tr (Kp.drewN_ _ _)⟩
          | false =>
            have HT2 : Hid (r = false) := by show r = _; rw [hT.out, HD.out]; rfl
            go_wp2_with fail
            go_quiet (fail)
            go_wp2
            go_ret
            exact ⟨by rw [HT2.out]; rfl, K6.out.tr (Kp.drewN_ _ _)⟩
      · have hj' : ¬ (k : Int) < (n : Int) := by omega
        have HT2 : Hid (r = true) := by show r = _; rw [hT.out, List.drop_eq_nil_of_le (by rw [← HN.out.1]; omega), List.drop_eq_nil_of_le (by rw [← HN.out.2]; omega)]; rfl
        go_wp2
        go_ret
        exact ⟨by rw [HT2.out]; rfl, hK.out⟩
  · have hne : ((n : Int) != (m : Int)) = true := by simp; omega
    have hab : (a == b) = false := by rw [beq_eq_false_iff_ne]; intro e; exact hl (by rw [e])
    rw [hab]
    have hn1 : n ≤ 9223372036854775807 := by omega
    have hm1 : m ≤ 9223372036854775807 := by omega
    clear hl hab
    go_enter Try.func16, Try.ntmps16
    go_wp2
    go_ret
    exact ⟨rfl, Kp.refl _⟩
end Go.Proofs.Ytdcpekkkenckeaa
