/- Layer 9 of the program: the four calls answer what the document says. -/
import Derived.Test.YtlbnbamgfffahaaImB
import Derived.Test.YtlbnbamgfffahaaImC
import Derived.Test.YtlbnbamgfffahaaR9C
import Derived.Deep.RegionHeld3
namespace Go.Proofs.Ytlbnbamgfffahaa
open Go.RowKit Go.Proofs.ShM Go.Proofs.PkM Go.Proofs.ImM
set_option linter.unusedVariables false
set_option maxHeartbeats 4000000

theorem put9_any (A P Q : Option Addr) (c e f : Nat) (bs : List Int) (t : T) (w : World) (hA : B8.Rd w A bs) (hbl : bs.length ≤ 100000) (hT : TR w P t.1 Q t.2) (hn : N64 t.2) :
    Calls Try.prog 11 #[.slice A bs.length c, .agg #[.slice P t.1.length e, .slice Q t.2.length f]] w (RetBE (iputV bs t).1 (iputV bs t).2 w) := by
  have F0 := Lib.hid (Bk.new (W := w) (b := w.heap.size) (A := P) (n := t.1.length) (c := e) (B := Q) (m := t.2.length) (d := f) rfl)
  have HT := Lib.hid (hT.alloc_ (.cells #[.slice P t.1.length e, .slice Q t.2.length f] 26))
  have hA1 := Lib.hid (hA.alloc_ (.cells #[.slice P t.1.length e, .slice Q t.2.length f] 26))
  have K0 : Hid (Kp w (w.alloc (.cells #[.slice P t.1.length e, .slice Q t.2.length f] 26))) := Kp.alloc_ _ _
  obtain ⟨W0, hW0⟩ : ∃ W0, W0 = w.alloc (.cells #[.slice P t.1.length e, .slice Q t.2.length f] 26) := ⟨_, rfl⟩
  rw [← hW0] at F0 HT hA1 K0
  have HCH : Hid (∀ W, Kp W0 W → Calls Try.prog 21 #[.agg #[.slice P t.1.length e, .slice Q t.2.length f]] W fun e w' => e = .returned (.bool (tokT t)) ∧ Kp W w') := fun W k => tcheck_any P Q e f t.1 t.2 W (HT.out.s.kp k) (HT.out.d.kp k)
  have p0 := F0.out.c0
  have p1 := F0.out.c1
  cases htok : tokT t with
  | false =>
    rw [htok] at HCH
    rw [show iputV bs t = ([], 30) by unfold iputV; rw [if_neg (by simp [htok])]]
    have HW0 := Lib.hid hW0
    clear htok hA hT
    go_enter Try.func11, Try.ntmps11
    rw [hW0] at p0 p1
    go_wp2_with fail
    rw [← HW0.out]
    refine (HCH.out _ (Kp.refl _)).mono ?_; rintro e w1 ⟨rfl, k1⟩
    have K1 := Lib.hid (K0.out.tr k1)
    clear k1
    go_wp2
    go_ret2
    exact ⟨none, 0, rfl, B8.Own.nil_ _ _, K1.out⟩
  | true =>
    obtain ⟨r, hr⟩ : ∃ r, r = tnB t := ⟨_, rfl⟩
    obtain ⟨hz1, hz2, hz3⟩ := tok_size htok
    have hrl : r.length ≤ 1000 := by rw [hr, tn_len]; omega
    have HBO : Hid (∀ W, Kp W0 W → Calls Try.prog 23 #[.agg #[.slice P t.1.length e, .slice Q t.2.length f]] W (RetBO r W)) := fun W k => by rw [hr]; exact bytesOf_any P Q e f t W (HT.out.kp k) htok hn
    rw [htok] at HCH
    obtain ⟨br, hbr⟩ : ∃ br, br = bs ++ r := ⟨_, rfl⟩
    rw [show iputV bs t = (br, 0) by unfold iputV; rw [if_pos htok, hbr, hr]]
    have HBR := Lib.hid hbr
    have HW0 := Lib.hid hW0
    have HRL := Lib.hid hrl
    clear htok hA hT hr hn hz1 hz2 hz3 hrl hbr
    go_enter Try.func11, Try.ntmps11
    rw [hW0] at p0 p1
    go_wp2_with fail
    rw [← HW0.out]
    refine (HCH.out _ (Kp.refl _)).mono ?_; rintro e0 w1 ⟨rfl, k1⟩
    have K1 := Lib.hid k1
    have p0 := (F0.out.kp k1).c0
    have p1 := (F0.out.kp k1).c1
    clear k1
    go_wp2_with fail
    refine (HBO.out _ K1.out).mono ?_; rintro e0 w2 ⟨E2, f2, rfl, o2, k2⟩
    have K2 := Lib.hid (K1.out.tr k2)
    obtain ⟨rr2, _, _⟩ := B8.own_rm o2
    have hRow : Hid (Calls Try.prog 22 #[.slice (some ⟨w2.heap.size, 0, none⟩) 2 2] (w2.alloc (.cells #[.slice A bs.length c, .slice E2 r.length f2] 22)) (RetBO br (w2.alloc (.cells #[.slice A bs.length c, .slice E2 r.length f2] 22)))) :=
      HBR.out ▸ concat8_any A E2 c f2 w2.heap.size bs r _ ((hA1.out.kp K2.out).alloc_ _) (rr2.alloc_ _) (by omega) (by have := HRL.out; omega) (by simp) (by simp) (by simp)
    clear o2 k2 p0 p1 HBO HCH rr2
    go_wp2_with fail
    refine (Hid.out hRow).mono ?_; rintro e0 w3 ⟨E3, f3, rfl, o3, k3⟩
    have K3 : Hid (Kp w w3) := (K0.out.tr (K2.out.al _)).tr k3
    have O3 : Hid (B8.Own w.heap.size w3 (.slice E3 br.length f3) br) := o3.weak2 (K0.out.tr (K2.out.al _)).size
    clear k3 o3 hRow
    go_wp2
    go_ret2
    exact ⟨E3, f3, rfl, O3.out, K3.out⟩

theorem write9_any (A : Option Addr) (c : Nat) (ts : List T) (w : World) (h : RdT w A ts) (hl : (allT ts).length ≤ 100000) (hn : ∀ t ∈ ts, N64 t.2) :
    Calls Try.prog 13 #[.slice A ts.length c] w (RetBE (iwriteV ts).1 (iwriteV ts).2 w) := by
  have hlen := h.len
  have HRD := Lib.hid h
  have HL := Lib.hid hl
  obtain ⟨r, hr⟩ : ∃ r, r = iwriteV ts := ⟨_, rfl⟩
  have HR := Lib.hid hr
  rw [← hr]
  have HCH : Hid (∀ (P Q : Option Addr) (e f : Nat) (t : T) (W : World), TR W P t.1 Q t.2 → Calls Try.prog 21 #[.agg #[.slice P t.1.length e, .slice Q t.2.length f]] W fun e w' => e = .returned (.bool (tokT t)) ∧ Kp W w') := fun P Q e f t W h => tcheck_any P Q e f t.1 t.2 W h.s h.d
  have HBO : Hid (∀ (P Q : Option Addr) (e f : Nat) (t : T) (W : World), TR W P t.1 Q t.2 → tokT t = true → N64 t.2 → Calls Try.prog 23 #[.agg #[.slice P t.1.length e, .slice Q t.2.length f]] W (RetBO (tnB t) W)) := fun P Q e f t W h1 h2 h3 => bytesOf_any P Q e f t W h1 h2 h3
  have HN := Lib.hid hn
  clear h hl hr hn
  go_enter Try.func13, Try.ntmps13
  go_wp2
  go_loopw [4, 9] (fun v i wx => ∃ (k : Nat) (E : Option Addr) (f : Nat) (cur : List Int), v = .slice E cur.length f ∧ i = .int .i64 (k : Int) ∧ Hid (k ≤ ts.length) ∧ Hid (allT ts = cur ++ allT (ts.drop k)) ∧ Hid (ts.all tokT = (ts.drop k).all tokT) ∧ Hid (B8.Own w.heap.size wx (.slice E cur.length f) cur) ∧ Hid (Kp w wx)) (fun _ i _ => ts.length - (intOf i).toNat)
  case atStart => exact ⟨0, none, 0, [], rfl, rfl, Nat.zero_le _, rfl, rfl, B8.Own.nil_ _ _, Kp.refl _⟩
  case round =>
    obtain ⟨k, E, g, cur, rfl, rfl, hk, hT, hG, hO, hK⟩ := hrel
    by_cases hj : k < ts.length
    · have hj' : (k : Int) < (ts.length : Int) := by omega
      obtain ⟨ad, t, P, e, Q, f, rfl, hlt, ht, hc1, hc2, hTR⟩ := (HRD.out.kp hK.out).at_ hj
      have hn := HN.out t (List.mem_of_getElem? ht)
      obtain ⟨a1, a2⟩ := allt_hd ht
      have hcl : cur.length + (tnB t).length ≤ 100000 := by have := HL.out; rw [hT.out, a1, List.length_append, List.length_append] at this; omega
      have F1 : Hid (Bk (wr.alloc (.cells #[.slice P t.1.length e, .slice Q t.2.length f] 26)) wr.heap.size P t.1.length e Q t.2.length f) := Bk.new rfl
      have HTR := Lib.hid (hTR.alloc_ (.cells #[.slice P t.1.length e, .slice Q t.2.length f] 26))
      have K1 : Hid (Kp w (wr.alloc (.cells #[.slice P t.1.length e, .slice Q t.2.length f] 26))) := hK.out.al _
      have O1 : Hid (B8.Own w.heap.size (wr.alloc (.cells #[.slice P t.1.length e, .slice Q t.2.length f] 26)) (.slice E cur.length g) cur) := hO.out.kp (Kp.alloc_ _ _)
      have p0 := F1.out.c0
      have p1 := F1.out.c1
      have HC := Lib.hid (HCH.out P Q e f t _ HTR.out)
      by_cases hm : tokT t = true
      · have HB := Lib.hid (fun W k => HBO.out P Q e f t W (HTR.out.kp k) hm hn)
        have HT2 : Hid (allT ts = (cur ++ tnB t) ++ allT (ts.drop (k + 1))) := by show _ = _; rw [hT.out, a1, List.append_assoc]
        have HG2 : Hid (ts.all tokT = (ts.drop (k + 1)).all tokT) := by show _ = _; rw [hG.out, a2, hm]; rfl
        rw [hm] at HC
        obtain ⟨b, hb⟩ : ∃ b, b = tnB t := ⟨_, rfl⟩
        rw [← hb] at HB HT2 hcl
        have HCL := Lib.hid hcl
        clear hm a1 a2 ht hcl hTR hb hn
        go_wp2_with fail
        refine (Hid.out HC).mono ?_; rintro e0 w2 ⟨rfl, k2⟩
        have p0 := (F1.out.kp k2).c0
        have p1 := (F1.out.kp k2).c1
        have O2 := Lib.hid (O1.out.kp k2)
        have K2 := Lib.hid (K1.out.tr k2)
        have k2 := Lib.hid k2
        go_wp2_with fail
        refine (HB.out _ k2.out).mono ?_; rintro e0 w3 ⟨E3, f3, rfl, o3, k3⟩
        have K3 := Lib.hid (K2.out.tr k3)
        have O3 := Lib.hid (O2.out.kp k3)
        obtain ⟨rr3, _, _⟩ := B8.own_rm o3
        have RR3 := Lib.hid rr3
        have hs3 := Lib.hid K3.out.size
        clear k3 o3 rr3 HC HB
        go_wp2_with (at_builtin; refine B8.wpList_app rfl (.tmp 16) (.tmp 18) rfl _ cur rfl O3.out E3 f3 b _ rfl rfl RR3.out (by have := HCL.out; omega) hs3.out ?_; intro z1 A1 d1 w6 HZ o6 b6; have O6 := Lib.hid o6; have K6 := Lib.hid (K3.out.trans b6); clear o6 b6)
        go_roundw
        case rel => exact ⟨k + 1, A1, d1, z1, rfl, by go_num, (by show k + 1 ≤ ts.length; omega), (by rw [HZ.out]; exact HT2.out), HG2.out, O6.out, K6.out⟩
        case measure => simp [intOf]; omega
      · have hr2 : Hid (r = ([], 30)) := by
          show r = _
          rw [HR.out]
          unfold iwriteV
          rw [if_neg (by rw [hG.out, a2]; simp [hm])]
        have hm' : tokT t = false := by simpa using hm
        rw [hm'] at HC
        clear hm hm' a1 a2 ht hcl hTR hn
        go_wp2_with fail
        refine (Hid.out HC).mono ?_; rintro e0 w5 ⟨rfl, k5⟩
        have K5 := Lib.hid (K1.out.tr k5)
        clear k5 HC
        go_wp2
        go_ret2
        rw [hr2.out]
        exact ⟨none, 0, rfl, B8.Own.nil_ _ _, K5.out⟩
    · have hj' : ¬ (k : Int) < (ts.length : Int) := by omega
      have hr2 : Hid (r = (cur, 0)) := by
        have e1 : ts.drop k = [] := List.drop_eq_nil_of_le (by omega)
        show r = _
        rw [HR.out]
        unfold iwriteV
        rw [if_pos (by rw [hG.out, e1]; rfl), hT.out, e1]
        simp [allT]
      go_wp2
      go_ret2
      rw [hr2.out]
      exact ⟨E, g, rfl, hO.out, hK.out⟩

theorem undrawn {a b : World} (h : Kp a.drew b) : Kp a b := ⟨h.os, h.tape, h.output, h.size, h.block⟩
theorem retTB_bad {w w' : World} (k : Kp w w') : RetTB [] [] [] 50 0 0 0 w (.returned (.tuple #[.agg #[.slice none 0 0, .slice none 0 0], .slice none 0 0, .int .i64 50])) w' :=
  ⟨none, 0, none, 0, none, 0, rfl, ⟨Rd.nil _ _, Rd.nil _ _⟩, B8.Rd.nil _ _, ⟨by simp, by simp⟩, k⟩
theorem take9_any (A : Option Addr) (c : Nat) (bs : List Int) (w : World) (hR : B8.Rd w A bs) (hc1 : bs.length ≤ c) (hc2 : c ≤ 9223372036854775807) (hb : Bytes bs) (hbl : bs.length ≤ 200000) (t : T) (r : List Int) (er : Int) (hv : itakeV bs = (t, r, er)) :
    Calls Try.prog 15 #[.slice A bs.length c] w (RetTB t.1 t.2 r er t.1.length t.2.length r.length w) := by
  have F0 := Lib.hid (Bk.new (W := w) (b := w.heap.size) (A := none) (n := 0) (c := 0) (B := none) (m := 0) (d := 0) rfl)
  have K0 : Hid (Kp w (w.alloc (.cells #[.slice none 0 0, .slice none 0 0] 26))) := Kp.alloc_ _ _
  obtain ⟨W0, hW0⟩ : ∃ W0, W0 = w.alloc (.cells #[.slice none 0 0, .slice none 0 0] 26) := ⟨_, rfl⟩
  rw [← hW0] at F0 K0
  have HW0 := Lib.hid hW0
  have hs0 : Hid (W0.heap.size = w.heap.size + 1) := by show _ = _; rw [hW0]; simp
  have HTK : Hid (Calls Try.prog 27 #[.slice A bs.length c, .int .i64 1] W0 (RetTk A bs (tknV 1 bs) W0)) := taken_any A c 1 bs W0 (hR.kp K0.out) hc1 hc2 hb hbl (by omega)
  rcases tkn_one bs with ⟨h1, h2⟩ | ⟨t2, r2, h1, h2⟩
  · have hvv : itakeV bs = (([], []), [], 50) := by unfold itakeV; rw [h1]
    rw [hvv] at hv
    injection hv with hv1 hv2
    injection hv2 with hv2 hv3
    subst hv1 hv2 hv3
    rw [h2] at HTK
    clear h1 h2 hvv hR hb hW0
    go_enter Try.func15, Try.ntmps15
    go_wp2_with fail
    rw [← HW0.out]
    refine (Hid.out HTK).mono ?_; rintro e w1 ⟨A1, c1, D, d, rfl, o1, _, _, _, k1⟩
    have K1 := Lib.hid k1
    have p0 := (F0.out.kp k1).c0
    have p1 := (F0.out.kp k1).c1
    have f0 := (F0.out.kp k1).f0 0
    have f1 := (F0.out.kp k1).f0 1
    clear o1 k1 HTK
    go_wp2
    have F9 := (F0.out.kp K1.out).put (C := none) (n' := 0) (c' := 0) (D := none) (m' := 0) (d' := 0)
    have r0 := F9.c0
    have r1 := F9.c1
    have K9 : Hid (Kp w ((w1.setCell ⟨w.heap.size, 0, none⟩ (.slice none 0 0)).setCell ⟨w.heap.size, 1, none⟩ (.slice none 0 0))) := Below.setCell (Below.setCell (K0.out.tr K1.out) (Nat.le_refl _) _) (Nat.le_refl _) _
    refine bodyPost_ret (by simp [results, Try.results15, go_sem, r0, r1]; try rfl) rfl ?_
    exact retTB_bad K9.out
  · have hvv : itakeV bs = (t2, r2, 0) := by unfold itakeV; rw [h1]
    rw [hvv] at hv
    injection hv with hv1 hv2
    injection hv2 with hv2 hv3
    subst hv1 hv2 hv3
    obtain ⟨_, hrl⟩ := take_less hb h1
    rw [h2] at HTK
    have HRd := Lib.hid hR
    have HRL := Lib.hid (show r2.length ≤ 200000 by omega)
    clear h1 h2 hvv hR hb hrl hW0
    go_enter Try.func15, Try.ntmps15
    go_wp2_with fail
    rw [← HW0.out]
    refine (Hid.out HTK).mono ?_; rintro e w1 ⟨A1, c1, D, d, rfl, o1, i1, j1, l1, k1⟩
    have K1 := Lib.hid k1
    obtain ⟨_, _, ef, hrt, _, _⟩ := o1.form
    injection ef with ef1 ef2 ef3
    subst ef1
    obtain ⟨ad, t', P, pc, Q, qc, rfl, hlt, ht', hc1', hc2', hTR⟩ := hrt.at_ (k := 0) (by simp)
    have ht2 : t2 = t' := by simpa using ht'
    subst ht2
    have ead : ad.add (0 * 2) = ad := by cases ad; simp [Addr.add]
    rw [ead] at hc1' hc2'
    have HCL : Hid (∀ W, Kp w1 W → Calls Try.prog 28 #[.slice D r2.length d] W (RetBO r2 W)) := fun W k => clone8_any D d r2 W (i1 W ((HRd.out.kp K0.out).kp (K1.out.tr k))) (by have := HRL.out; omega)
    have hTRH := Lib.hid hTR
    have hn1 : t2.1.length = t2.1.length := rfl
    have hge : ad.block ≠ w.heap.size := by
      have := o1.from_ (k := ad.block) rfl
      rw [hs0.out] at this
      omega
    have hKV : Hid (∀ V, Kp w1.drew V → V.cell? ad = some (.slice P t2.1.length pc) ∧ V.cell? ⟨ad.block, ad.off + 1, none⟩ = some (.slice Q t2.2.length qc) ∧ Hid (Bk V w.heap.size none 0 0 none 0 0) ∧ Hid (TR V P t2.1 Q t2.2) ∧ Kp w V) := fun V k => by
      have k' : Kp w1 V := undrawn k
      exact ⟨(k'.cell hlt).trans hc1', (k'.cell (p := ⟨ad.block, ad.off + 1, none⟩) hlt).trans hc2', F0.out.kp (K1.out.tr k'), hTR.kp k', K0.out.tr (K1.out.tr k')⟩
    have hdr : Hid (Kp w1.drew w1.drew) := Kp.refl _
    obtain ⟨x0, x1, TO0, _, _⟩ := hKV.out _ hdr.out
    have HCL2 : Hid (∀ W, Kp w1.drew W → Calls Try.prog 28 #[.slice D r2.length d] W (RetBO r2 W)) := fun W k => HCL.out W (undrawn k)
    have t0 := TO0.out.c0
    have t1 := TO0.out.c1
    have s0 := TO0.out.f0 0
    have s1 := TO0.out.f0 1
    clear HTK i1 hrt hc1' hc2' ht' hTR k1 o1 HCL
    go_wp2_with fail
    go_region_held3 (fun V => V.cell? ad = some (.slice P t2.1.length pc) ∧ V.cell? ⟨ad.block, ad.off + 1, none⟩ = some (.slice Q t2.2.length qc)) (first | exact ⟨x0, x1⟩ | exact ⟨q0, q1⟩ | exact ⟨cell_ne (fun e => hge (congrArg Addr.block e).symm) (cell_ne (fun e => hge (congrArg Addr.block e).symm) q0), cell_ne (fun e => hge (congrArg Addr.block e).symm) (cell_ne (fun e => hge (congrArg Addr.block e).symm) q1)⟩)
      (first
      | (go_at_call 28; refine (HCL2.out _ hdr.out).mono ?_; rintro e0 w4 ⟨A4, c4, rfl, o4, k4⟩; have K4 := Lib.hid k4; obtain ⟨q0, q1, TO4, TR4, KW4⟩ := hKV.out _ K4.out; have O4 := Lib.hid o4; have o0 := TO4.out.c0; have o1 := TO4.out.c1; have u0 := TO4.out.f0 0; have u1 := TO4.out.f0 1; clear k4 o4))
    have F9 := TO4.out.put (C := P) (n' := t2.1.length) (c' := pc) (D := Q) (m' := t2.2.length) (d' := qc)
    have r0 := F9.c0
    have r1 := F9.c1
    have K9 : Hid (Kp w ((w4.setCell ⟨w.heap.size, 0, none⟩ (.slice P t2.1.length pc)).setCell ⟨w.heap.size, 1, none⟩ (.slice Q t2.2.length qc))) := Below.setCell (Below.setCell KW4 (Nat.le_refl _) _) (Nat.le_refl _) _
    go_wp2
    have hbig : w.heap.size < w1.heap.size := by have := K1.out.size; have := hs0.out; omega
    obtain ⟨rr, l4, m4⟩ := B8.own_rm (O4.out.of_block (w' := (w4.setCell ⟨w.heap.size, 0, none⟩ (.slice P t2.1.length pc)).setCell ⟨w.heap.size, 1, none⟩ (.slice Q t2.2.length qc)) fun g hg => by
      have h9 : w1.heap.size ≤ g := O4.out.from_ hg
      rw [Below.heap_setCell _ _ _ _ (by simp; omega), Below.heap_setCell _ _ _ _ (by simp; omega)])
    refine bodyPost_ret (by simp [results, Try.results15, go_sem, r0, r1]; try rfl) rfl ?_
    exact ⟨P, pc, Q, qc, A4, c4, rfl, TR4.out.past TO4.out _ _, rr, ⟨l4, m4⟩, K9.out⟩

theorem read9_any (A : Option Addr) (c : Nat) (bs : List Int) (w : World) (hR : B8.Rd w A bs) (hc1 : bs.length ≤ c) (hc2 : c ≤ 9223372036854775807) (hb : Bytes bs) (hbl : bs.length ≤ 200000) :
    Calls Try.prog 17 #[.slice A bs.length c] w (RetTsE (ireadV bs).1 (ireadV bs).2 w) := by
  have HTK : Hid (Calls Try.prog 27 #[.slice A bs.length c, .int .i64 (bs.length : Int)] w (RetTk A bs (tknV bs.length bs) w)) := taken_any A c bs.length bs w hR hc1 hc2 hb hbl hbl
  obtain ⟨ts, r, hv⟩ : ∃ ts r, tknV bs.length bs = (ts, r) := ⟨_, _, rfl⟩
  have hrd := read_tkn (n := bs.length) hb (Nat.le_refl _)
  rw [hv] at hrd HTK
  by_cases h : r.length = 0
  · have hV : ireadV bs = (ts, 0) := by unfold ireadV; rw [hrd, if_pos h]
    rw [hV]
    have h' : ¬ (0 : Int) < (r.length : Int) := by omega
    clear hR hb hrd hv hV
    go_enter Try.func17, Try.ntmps17
    go_wp2_with fail
    refine (Hid.out HTK).mono ?_; rintro e w1 ⟨A1, c1, D, d, rfl, o1, _, _, _, k1⟩
    have O1 := Lib.hid o1
    have K1 := Lib.hid k1
    clear o1 k1 HTK
    go_wp2
    go_ret2
    exact ⟨A1, c1, rfl, O1.out, K1.out⟩
  · have hV : ireadV bs = ([], 50) := by unfold ireadV; rw [hrd, if_neg h]
    rw [hV]
    have h' : (0 : Int) < (r.length : Int) := by omega
    clear hR hb hrd hv hV
    go_enter Try.func17, Try.ntmps17
    go_wp2_with fail
    refine (Hid.out HTK).mono ?_; rintro e w1 ⟨A1, c1, D, d, rfl, o1, _, _, _, k1⟩
    have K1 := Lib.hid k1
    clear o1 k1 HTK
    go_wp2
    go_ret2
    exact ⟨none, 0, rfl, OwnT.nil_ _ _, K1.out⟩

/-- The four calls of image. -/
theorem imc : ImC where
  put := by
    intro A P Q c m n e q f bs t r err k W hR h1 h2 h3 h4 hT h5 h6 h7 h8 hm hn hq hv hk
    subst hm hn hq hk
    have h := put9_any A P Q c e f bs t W hR h3 hT h8
    rw [hv] at h
    refine h.mono ?_
    rintro e0 w1 ⟨E, g, rfl, o, k1⟩
    obtain ⟨rr, l1, l2⟩ := B8.own_rm o
    exact ⟨E, g, rfl, rr, ⟨l1, l2⟩, k1⟩
  take := by
    intro A c m bs t r err a b k W hR h1 h2 h3 h4 hm hv ha hb hk
    subst hm ha hb hk
    exact take9_any A c bs W hR h1 h2 h4 (by omega) t r err hv
  write := by
    intro A c m ts r err k W hR h1 h2 h3 h4 h5 hm hv hk
    subst hm hk
    have h := write9_any A c ts W hR h4 (fun t ht => (h5 t ht).2.2.2)
    rw [hv] at h
    refine h.mono ?_
    rintro e0 w1 ⟨E, g, rfl, o, k1⟩
    obtain ⟨rr, l1, l2⟩ := B8.own_rm o
    exact ⟨E, g, rfl, rr, ⟨l1, l2⟩, k1⟩
  read := by
    intro A c m bs ts err k W hR h1 h2 h3 h4 hm hv hk
    subst hm hk
    have h := read9_any A c bs W hR h1 h2 h4 (by omega)
    rw [hv] at h
    refine h.mono ?_
    rintro e0 w1 ⟨E, g, rfl, o, k1⟩
    obtain ⟨E2, g2, ee, hr, l1, l2⟩ := o.form
    injection ee with e1 e2 e3
    subst e1 e3
    exact ⟨E, g, rfl, hr, ⟨l1, l2⟩, k1⟩
end Go.Proofs.Ytlbnbamgfffahaa
