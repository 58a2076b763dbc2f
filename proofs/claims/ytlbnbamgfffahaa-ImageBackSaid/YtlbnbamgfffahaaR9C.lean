/- The document's layer 9: Put, Write. -/
import Derived.Test.YtlbnbamgfffahaaImMem
import Derived.Test.YtlbnbamgfffahaaR8B
namespace Go.Proofs.Ytlbnbamgfffahaa
open Go.RowKit Go.Proofs.ShM Go.Proofs.PkM Go.Proofs.ImM
set_option linter.unusedVariables false
set_option maxHeartbeats 4000000

theorem rput9_any (A P Q : Option Addr) (c e f : Nat) (bs : List Int) (t : T) (w : World) (hA : B8.Rd w A bs) (hbl : bs.length ≤ 100000) (hT : TR w P t.1 Q t.2) :
    Calls Try.prog 12 #[.slice A bs.length c, .agg #[.slice P t.1.length e, .slice Q t.2.length f]] w (RetBE (iputV bs t).1 (iputV bs t).2 w) := by
  have F0 := Lib.hid (Bk.new (W := w) (b := w.heap.size) (A := P) (n := t.1.length) (c := e) (B := Q) (m := t.2.length) (d := f) rfl)
  have HT := Lib.hid (hT.alloc_ (.cells #[.slice P t.1.length e, .slice Q t.2.length f] 26))
  have hA1 := Lib.hid (hA.alloc_ (.cells #[.slice P t.1.length e, .slice Q t.2.length f] 26))
  have K0 : Hid (Kp w (w.alloc (.cells #[.slice P t.1.length e, .slice Q t.2.length f] 26))) := Kp.alloc_ _ _
  obtain ⟨W0, hW0⟩ : ∃ W0, W0 = w.alloc (.cells #[.slice P t.1.length e, .slice Q t.2.length f] 26) := ⟨_, rfl⟩
  rw [← hW0] at F0 HT hA1 K0
  have HCH : Hid (∀ W, Kp W0 W → Calls Try.prog 24 #[.agg #[.slice P t.1.length e, .slice Q t.2.length f]] W fun e w' => e = .returned (.bool (tokT t)) ∧ Kp W w') := fun W k => rtcheck_any P Q e f t.1 t.2 W (HT.out.s.kp k) (HT.out.d.kp k)
  have p0 := F0.out.c0
  have p1 := F0.out.c1
  cases htok : tokT t with
  | false =>
    rw [htok] at HCH
    rw [show iputV bs t = ([], 30) by unfold iputV; rw [if_neg (by simp [htok])]]
    have HW0 := Lib.hid hW0
    clear htok hA hT
    go_enter Try.func12, Try.ntmps12
    rw [hW0] at p0 p1
    go_wp2_with fail
    rw [← HW0.out]
    refine (HCH.out _ (Kp.refl _)).mono ?_; rintro e w1 ⟨rfl, k1⟩
    have K1 := Lib.hid (K0.out.tr k1)
    clear k1
    go_wp2
    go_ret2
    exact ⟨none, 0, rfl, B8.Own.nil_ _ _, K1.out⟩
  | true =>
    obtain ⟨r, hr⟩ : ∃ r, r = bs ++ tnB t := ⟨_, rfl⟩
    obtain ⟨hz1, hz2, hz3⟩ := tok_size htok
    have htk := (ImM.tok_iff.1 htok).1
    rw [htok] at HCH
    rw [show iputV bs t = (bs ++ tnB t, 0) by unfold iputV; rw [if_pos htok], ← hr]
    have HW0 := Lib.hid hW0
    obtain ⟨cur0, hc0⟩ : ∃ cur0, cur0 = bs ++ [(t.1.length : Int)] ++ allB t.1 1 := ⟨_, rfl⟩
    have hlv : listV bs t.1 1 = (cur0, 0) := by
      unfold listV
      rw [if_pos ⟨by omega, by decide, ok_may htk⟩, hc0]; rfl
    have HL : Hid (∀ W, Kp W0 W → Calls Try.prog 25 #[.slice A bs.length c, .slice P t.1.length e, .int .i64 1] W (RetBE cur0 0 W)) := fun W k => by
      have h := rlist8_any A P c e bs t.1 1 W (hA1.out.kp k) (HT.out.s.kp k) (by omega)
      rw [hlv] at h
      exact h
    have H0 : Hid (Wl r cur0 t.2 0 8) := by show r = cur0 ++ allB (t.2.drop 0) 8; rw [hr, hc0]; unfold tnB; simp
    have hrl : Hid (r.length ≤ 101000) := by show r.length ≤ 101000; rw [hr, List.length_append, tn_len]; omega
    have HPW : Hid (∀ (E : Option Addr) (f : Nat) (cur : List Int) (x : Int) (W : World), B8.Rd W E cur → cur.length ≤ 300000 → Calls Try.prog 26 #[.slice E cur.length f, .int .i64 x, .int .i64 8] W (RetBE (cur ++ byteL x 8) 0 W)) := fun E f cur x W h1 h2 => by
      have h := rput8_any E f cur x 8 W h1 h2
      rw [show putV cur x 8 = (cur ++ byteL x 8, 0) by unfold putV; rw [if_pos (may_8 x)]; rfl] at h
      exact h
    clear htok hA hT hr hc0 hlv htk hz3
    go_enter Try.func12, Try.ntmps12
    rw [hW0] at p0 p1
    go_wp2_with fail
    rw [← HW0.out]
    refine (HCH.out _ (Kp.refl _)).mono ?_; rintro e0 w1 ⟨rfl, k1⟩
    have K1 := Lib.hid k1
    have p0 := (F0.out.kp k1).c0
    have p1 := (F0.out.kp k1).c1
    clear k1
    go_wp2_with fail
    refine (HL.out _ K1.out).mono ?_; rintro e0 w2 ⟨E2, f2, rfl, o2, k2⟩
    have K2 := Lib.hid (K1.out.tr k2)
    have O2 := Lib.hid (o2.weak (K0.out.tr K1.out).size)
    clear o2 k2 p0 p1
    go_wp2
    go_loopw [7, 9] (fun v i wx => ∃ (k : Nat) (E : Option Addr) (f : Nat) (cur : List Int), v = .slice E cur.length f ∧ i = .int .i64 (k : Int) ∧ Hid (k ≤ t.2.length) ∧ Hid (Wl r cur t.2 k 8) ∧ Hid (B8.Own w.heap.size wx (.slice E cur.length f) cur) ∧ Hid (Kp W0 wx)) (fun _ i _ => t.2.length - (intOf i).toNat)
    case atStart => exact ⟨0, E2, f2, cur0, rfl, rfl, Nat.zero_le _, H0.out, O2.out, K2.out⟩
    case round =>
      obtain ⟨k, E, g, cur, rfl, rfl, hk, hT, hO, hK⟩ := hrel
      have p0 := (F0.out.kp hK.out).c0
      have p1 := (F0.out.kp hK.out).c1
      by_cases hj : k < t.2.length
      · have hj' : (k : Int) < (t.2.length : Int) := by omega
        obtain ⟨ad, x, rfl, hlt, hx, hc⟩ := (HT.out.d.kp hK.out).at_ hj
        have hRc : B8.Rd wr E cur := by
          obtain ⟨A', c', e, hr⟩ := hO.out.form
          injection e with e1 e2 e3
          rw [e1]; exact hr
        have HC := Lib.hid (HPW.out E g cur x wr hRc (by have := wl_len hT.out; have := hrl.out; omega))
        have HT2 := Lib.hid (wl_step hT.out hx)
        generalize cur ++ byteL x 8 = cur2 at HT2 HC
        clear hx hRc
        go_wp2_with fail
        refine (Hid.out HC).mono ?_; rintro e0 w5 ⟨E5, f5, rfl, o5, k5⟩
        have O5 := Lib.hid (o5.weak (K0.out.tr hK.out).size)
        have K5 := Lib.hid (hK.out.tr k5)
        clear o5 k5 HC
        go_wp2
        go_roundw
        case rel => exact ⟨k + 1, E5, f5, cur2, rfl, by go_num, (by show k + 1 ≤ t.2.length; omega), HT2.out, O5.out, K5.out⟩
        case measure => simp [intOf]; omega
      · have hj' : ¬ (k : Int) < (t.2.length : Int) := by omega
        obtain rfl := wl_end hT.out (by omega)
        go_wp2
        go_ret2
        exact ⟨E, g, rfl, hO.out, K0.out.tr hK.out⟩

theorem allt_hd {ts : List T} {k : Nat} {t : T} (ht : ts[k]? = some t) : allT (ts.drop k) = tnB t ++ allT (ts.drop (k + 1)) ∧ (ts.drop k).all tokT = (tokT t && (ts.drop (k + 1)).all tokT) := by
  obtain ⟨h, e⟩ := List.getElem?_eq_some_iff.1 ht
  rw [List.drop_eq_getElem_cons h, e]
  exact ⟨rfl, rfl⟩
theorem rwrite9_any (A : Option Addr) (c : Nat) (ts : List T) (w : World) (h : RdT w A ts) (hl : (allT ts).length ≤ 100000) :
    Calls Try.prog 14 #[.slice A ts.length c] w (RetBE (iwriteV ts).1 (iwriteV ts).2 w) := by
  have hlen := h.len
  have HRD := Lib.hid h
  have HL := Lib.hid hl
  obtain ⟨r, hr⟩ : ∃ r, r = iwriteV ts := ⟨_, rfl⟩
  have HR := Lib.hid hr
  rw [← hr]
  have HP : Hid (∀ (A P Q : Option Addr) (c e f : Nat) (bs : List Int) (t : T) (W : World), B8.Rd W A bs → bs.length ≤ 100000 → TR W P t.1 Q t.2 → Calls Try.prog 12 #[.slice A bs.length c, .agg #[.slice P t.1.length e, .slice Q t.2.length f]] W (RetBE (iputV bs t).1 (iputV bs t).2 W)) := fun A P Q c e f bs t W h1 h2 h3 => rput9_any A P Q c e f bs t W h1 h2 h3
  clear h hl hr
  go_enter Try.func14, Try.ntmps14
  go_wp2
  go_loopw [4, 5] (fun v i wx => ∃ (k : Nat) (E : Option Addr) (f : Nat) (cur : List Int), v = .slice E cur.length f ∧ i = .int .i64 (k : Int) ∧ Hid (k ≤ ts.length) ∧ Hid (allT ts = cur ++ allT (ts.drop k)) ∧ Hid (ts.all tokT = (ts.drop k).all tokT) ∧ Hid (B8.Own w.heap.size wx (.slice E cur.length f) cur) ∧ Hid (Kp w wx)) (fun _ i _ => ts.length - (intOf i).toNat)
  case atStart => exact ⟨0, none, 0, [], rfl, rfl, Nat.zero_le _, rfl, rfl, B8.Own.nil_ _ _, Kp.refl _⟩
  case round =>
    obtain ⟨k, E, g, cur, rfl, rfl, hk, hT, hG, hO, hK⟩ := hrel
    by_cases hj : k < ts.length
    · have hj' : (k : Int) < (ts.length : Int) := by omega
      obtain ⟨ad, t, P, e, Q, f, rfl, hlt, ht, hc1, hc2, hTR⟩ := (HRD.out.kp hK.out).at_ hj
      have hRc : B8.Rd wr E cur := by
        obtain ⟨A', c', e, hr⟩ := hO.out.form
        injection e with e1 e2 e3
        rw [e1]; exact hr
      have hcl : cur.length ≤ 100000 := by have := HL.out; rw [hT.out, List.length_append] at this; omega
      have HC := Lib.hid (HP.out E P Q g e f cur t wr hRc hcl hTR)
      obtain ⟨a1, a2⟩ := allt_hd ht
      by_cases hm : tokT t = true
      · have HT2 : Hid (allT ts = (cur ++ tnB t) ++ allT (ts.drop (k + 1))) := by show _ = _; rw [hT.out, a1, List.append_assoc]
        have HG2 : Hid (ts.all tokT = (ts.drop (k + 1)).all tokT) := by show _ = _; rw [hG.out, a2, hm]; rfl
        rw [show iputV cur t = (cur ++ tnB t, 0) by unfold iputV; rw [if_pos hm]] at HC
        generalize cur ++ tnB t = cur2 at HT2 HC
        clear hm a1 a2 ht hRc hcl hTR
        go_wp2_with fail
        refine (Hid.out HC).mono ?_; rintro e0 w5 ⟨E5, f5, rfl, o5, k5⟩
        have O5 := Lib.hid (o5.weak hK.out.size)
        have K5 := Lib.hid (hK.out.tr k5)
        clear o5 k5 HC
        go_wp2
        go_roundw
        case rel => exact ⟨k + 1, E5, f5, cur2, rfl, by go_num, (by show k + 1 ≤ ts.length; omega), HT2.out, HG2.out, O5.out, K5.out⟩
        case measure => simp [intOf]; omega
      · have hr2 : Hid (r = ([], 30)) := by
          show r = _
          rw [HR.out]
          unfold iwriteV
          rw [if_neg (by rw [hG.out, a2]; simp [hm])]
        rw [show iputV cur t = ([], 30) by unfold iputV; rw [if_neg hm]] at HC
        clear hm a1 a2 ht hRc hcl hTR
        go_wp2_with fail
        refine (Hid.out HC).mono ?_; rintro e0 w5 ⟨E5, f5, rfl, o5, k5⟩
        have K5 := Lib.hid (hK.out.tr k5)
        clear o5 k5 HC
        go_wp2
        go_ret2
        rw [hr2.out]
        exact ⟨none, 0, rfl, B8.Own.nil_ _ _, K5.out⟩
    · have hj' : ¬ (k : Int) < (ts.length : Int) := by omega
      have hr2 : Hid (r = (cur, 0)) := by
        have e1 : ts.drop k = [] := List.drop_eq_nil_of_le (by omega)
        show r = _
        rw [HR.out]
        unfold iwriteV
        rw [if_pos (by rw [hG.out, e1]; rfl), hT.out, e1]
        simp [allT]
      go_wp2
      go_ret2
      rw [hr2.out]
      exact ⟨E, g, rfl, hO.out, hK.out⟩
end Go.Proofs.Ytlbnbamgfffahaa
