/- Reshape and Turn of layer 5 (move): what they answer. -/
import Derived.Test.YtdjfjhanffliiaaPvD
namespace Go.Proofs.Ytdjfjhanffliiaa
open Go.RowKit Go.Shelf Go.Proofs.ShM
set_option linter.unusedVariables false

theorem each_turn {s xs : List Int} (ht : tokV s xs = true) : okS s.reverse = true ∧ (List.range (sizeV s.reverse).toNat).map (fun k : Nat => (atV s xs (digs s.reverse k).reverse).1) = turnD s xs := by
  obtain ⟨ho, hn, hm1, hm64⟩ := tok_len ht
  obtain ⟨g1, g2, g3⟩ := ok_iff.1 ho
  have h1 : okS s.reverse = true := ok_iff.2 ⟨by simpa using g1, by rw [ok_rev]; exact g2, by rw [prod_rev]; exact g3⟩
  have hsr : sizeV s.reverse = (xs.length : Int) := by rw [size_ok h1, prod_rev, ← size_nat ho, hn]
  exact ⟨h1, by rw [hsr, Int.toNat_natCast]; rfl⟩

set_option maxHeartbeats 2000000 in
theorem pturn_any (A B : Option Addr) (c d : Nat) (s xs : List Int) (w : World) (hA : Rd w A s) (hB : Rd w B xs) :
    Calls Try.prog 14 #[.agg #[.slice A s.length c, .slice B xs.length d]] w (RetT (turnV s xs) w) := by
  have hlA := hA.len
  have hlB := hB.len
  have F0 := Lib.hid (Fr.mk_ w A s.length c B xs.length d 24)
  have HT := Lib.hid (tcheck_any A B c d s xs _ (hA.kp F0.out.kp) (hB.kp F0.out.kp))
  cases ht : tokV s xs with
  | false =>
    rw [ht] at HT
    have HF : Hid (turnV s xs = ([], [], 30)) := by show turnV s xs = _; unfold turnV; rw [if_pos ht]
    clear ht hA hB
    go_enter Try.func14, Try.ntmps14
    go_wp2_with fail
    refine (Calls.mono (Hid.out HT)) ?_; rintro e0 w1 ⟨rfl, k1⟩
    have F1 := Lib.hid (F0.out.tr k1)
    obtain ⟨_, b0, b1, r0, r1, f0, f1, _⟩ := F1.out
    clear k1
    go_wp2
    refine bodyPost_ret (v := .tuple #[.agg #[.slice none 0 0, .slice none 0 0], .int .i64 30]) (by simp [results, Try.results14, go_sem, r0, r1]; try rfl) rfl ?_
    exact RetT.err HF.out (F1.out.end_ _ _)
  | true =>
    rw [ht] at HT
    have hs3 : s.length ≤ 3 := (ok_iff.1 (tok_len ht).1).1
    have HF : Hid (turnV s xs = (s.reverse, turnD s xs, 0)) := by show turnV s xs = _; unfold turnV; rw [if_neg (by simp [ht])]
    obtain ⟨hro, hmap⟩ := each_turn ht
    have HV : Hid (∀ W, Kp w W → Calls Try.prog 32 #[.slice A s.length c] W fun e W' => ∃ D n, e = .returned (.slice D s.length n) ∧ Rd W' D s.reverse ∧ Kp W W') := fun W k => (pturned_any A c s W (hA.kp k) (by omega)).mono fun e W' h => by
      obtain ⟨D, n, e1, o, kk⟩ := h
      exact ⟨D, n, by rw [e1, List.length_reverse], o.sl.rd, kk⟩
    have HE : Hid (∀ V D n, Kp w V → Bk V w.heap.size A s.length c B xs.length d → Rd V D s.reverse → Calls Try.prog 31 #[.slice D s.length n, .func (.func 33) #[] #[.pointer (some ⟨w.heap.size, 0, none⟩)]] V (RetM s.reverse (turnD s xs) V)) := fun V D n kV T r => by
      have hh := each_any D n s.reverse 33 [.pointer (some ⟨w.heap.size, 0, none⟩)] (fun k => (atV s xs (digs s.reverse k).reverse).1) V r hro
        (fun k AI m W0 W1 k0 k1 hk hO => by
          have q := turn1_any A B AI c d m w.heap.size s xs (digs s.reverse k) W1 (T.kp (k0.tr k1)) (hA.kp (kV.tr (k0.tr k1))) (hB.kp (kV.tr (k0.tr k1))) hO.sl.rd (by rw [digs_len, List.length_reverse]; exact hs3)
          rw [digs_len] at q
          exact q.mono fun e W' h => ⟨h.1, h.2.mono k1.size⟩) (enters_of Try.func33 (by kernel_rfl) rfl)
      rw [hmap, List.length_reverse] at hh
      exact hh
    clear ht hro hmap hA hB hs3
    go_enter Try.func14, Try.ntmps14
    go_wp2_with fail
    refine (Calls.mono (Hid.out HT)) ?_; rintro e0 w1 ⟨rfl, k1⟩
    have K := Lib.hid (F0.out.kp.tr k1)
    have TB : Hid (Bk w1 w.heap.size A s.length c B xs.length d) := ((Bk.new rfl).alloc_ _).kp k1
    have TO : Hid (Bk w1 (w.heap.size + 1) none 0 0 none 0 0) := (Bk.new (World.size_alloc _ _).symm).kp k1
    have t0 := TB.out.c0
    clear k1
    go_wp2_with fail
    refine (HV.out _ K.out).mono ?_; rintro e0 w2 ⟨D, n, rfl, r2, k2⟩
    have K := Lib.hid (K.out.tr k2)
    have TB := Lib.hid (TB.out.kp k2)
    have TO := Lib.hid (TO.out.kp k2)
    have R2 := Lib.hid r2
    clear t0 k2 r2
    go_wp2_with fail
    refine (HE.out _ _ _ K.out TB.out R2.out).mono ?_; rintro e0 w3 ⟨A3, c3, B3, d3, rfl, r3, p3, k3⟩
    have K := Lib.hid (K.out.tr k3)
    have TO := Lib.hid (TO.out.kp k3)
    have R3 := Lib.hid (And.intro r3 p3)
    have o0 := TO.out.c0
    have o1 := TO.out.c1
    have u0 := TO.out.f0 0
    have u1 := TO.out.f0 1
    clear k3 r3 p3
    go_wp2
    refine bodyPost_ret (v := .tuple #[.agg #[.slice A3 s.reverse.length c3, .slice B3 (turnD s xs).length d3], .int .i64 0]) (by simp [results, Try.results14, go_sem, o0, o1]; try rfl) rfl ?_
    exact RetT.of HF.out (R3.out.1.past TO.out _ _) (R3.out.2.past TO.out _ _) ((K.out.setCell (p := ⟨w.heap.size + 1, 0, none⟩) (Nat.le_succ _) _).setCell (p := ⟨w.heap.size + 1, 1, none⟩) (Nat.le_succ _) _)

set_option maxHeartbeats 4000000 in
theorem preshape_any (A B C : Option Addr) (c d e : Nat) (s xs g : List Int) (w : World) (hA : Rd w A s) (hB : Rd w B xs) (hC : Rd w C g) :
    Calls Try.prog 11 #[.agg #[.slice A s.length c, .slice B xs.length d], .slice C g.length e] w (RetT (reshapeV s xs g) w) := by
  have hlA := hA.len
  have hlB := hB.len
  have F0 := Lib.hid (Fr.mk_ w A s.length c B xs.length d 24)
  have HT := Lib.hid (tcheck_any A B c d s xs _ (hA.kp F0.out.kp) (hB.kp F0.out.kp))
  have HS := Lib.hid (fun W (k : Kp w W) => size_any C e g W (hC.kp k))
  cases ht : tokV s xs with
  | false =>
    rw [ht] at HT
    have HF : Hid (reshapeV s xs g = ([], [], 30)) := by show reshapeV s xs g = _; unfold reshapeV; rw [if_pos ht]
    clear ht hA hB hC
    go_enter Try.func11, Try.ntmps11
    go_wp2_with fail
    refine (Calls.mono (Hid.out HT)) ?_; rintro e0 w1 ⟨rfl, k1⟩
    have F1 := Lib.hid (F0.out.tr k1)
    obtain ⟨_, b0, b1, r0, r1, f0, f1, _⟩ := F1.out
    clear k1
    go_wp2
    refine bodyPost_ret (v := .tuple #[.agg #[.slice none 0 0, .slice none 0 0], .int .i64 30]) (by simp [results, Try.results11, go_sem, r0, r1]; try rfl) rfl ?_
    exact RetT.err HF.out (F1.out.end_ _ _)
  | true =>
    rw [ht] at HT
    have hx64 := (tok_len ht).2.2
    obtain ⟨N, hN⟩ : ∃ N : Int, sizeV g = N := ⟨_, rfl⟩
    rw [hN] at HS
    by_cases hq : N = (xs.length : Int)
    · have HF : Hid (reshapeV s xs g = (g, xs, 0)) := by show reshapeV s xs g = _; unfold reshapeV; rw [if_neg (by simp [ht]), if_pos (by rw [hN]; exact hq)]
      have hg3 : g.length ≤ 1000000 := by
        cases ho : okS g with
        | true => have := (ok_iff.1 ho).1; omega
        | false => have := size_no ho; omega
      have q2 : (N != (xs.length : Int)) = false := by simpa using hq
      have HCG : Hid (∀ W, Kp w W → Calls Try.prog 28 #[.slice C g.length e] W (RetO g W)) := fun W k => clone_any C e g W (hC.kp k) hg3
      have HCX : Hid (∀ W, Kp w W → Calls Try.prog 28 #[.slice B xs.length d] W (RetO xs W)) := fun W k => clone_any B d xs W (hB.kp k) (by omega)
      clear ht hN hq hA hB hC hg3 hx64
      go_enter Try.func11, Try.ntmps11
      go_wp2_with fail
      refine (Calls.mono (Hid.out HT)) ?_; rintro e0 w1 ⟨rfl, k1⟩
      have K1 := Lib.hid (F0.out.kp.tr k1)
      have TB : Hid (Bk w1 w.heap.size A s.length c B xs.length d) := ((Bk.new rfl).alloc_ _).kp k1
      have TO : Hid (Bk w1 (w.heap.size + 1) none 0 0 none 0 0) := (Bk.new (World.size_alloc _ _).symm).kp k1
      have t0 := TB.out.c0
      have t1 := TB.out.c1
      clear k1
      go_wp2
      go_quiet ((go_at_call 27; exact quiet_same (HS.out _ (K1.out.tr (Kp.drewN_ _ _)))))
      obtain ⟨w2, hw2⟩ : ∃ w2, w2 = w1.drewN nq := ⟨_, rfl⟩
      have k2 : Kp w1 w2 := by rw [hw2]; exact Kp.drewN_ _ _
      rw [← hw2]
      have K2 := Lib.hid (K1.out.tr k2)
      have TB2 := Lib.hid (TB.out.kp k2)
      have TO2 := Lib.hid (TO.out.kp k2)
      clear hw2 t0 t1
      have t1 := TB2.out.c1
      clear k2
      have hne : w.heap.size + 1 ≠ w.heap.size := by omega
      have hK3 : Hid (∀ V, Kp w2.drew V → Hid (Kp w2 V) ∧ V.cell? ⟨w.heap.size, 1, none⟩ = some (.slice B xs.length d) ∧ Hid (Bk V (w.heap.size + 1) none 0 0 none 0 0)) := fun V kV => ⟨undrawn kV, (TB2.out.kp (undrawn kV)).c1, TO2.out.kp (undrawn kV)⟩
      have hdr : Hid (Kp w2.drew w2.drew) := Kp.refl _
      have HCG2 : Hid (∀ W, Kp w2.drew W → Calls Try.prog 28 #[.slice C g.length e] W (RetO g W)) := fun W k => HCG.out W (K2.out.tr (undrawn k))
      have HCX2 : Hid (∀ W, Kp w2.drew W → Calls Try.prog 28 #[.slice B xs.length d] W (RetO xs W)) := fun W k => HCX.out W (K2.out.tr (undrawn k))
      go_wp2
      go_region_held3 (fun V => V.cell? ⟨w.heap.size, 1, none⟩ = some (.slice B xs.length d)) (first | exact qD | exact qC | exact t1 | exact cell_ne (fun e => hne (congrArg Addr.block e)) (cell_ne (fun e => hne (congrArg Addr.block e)) (by first | exact qX)))
        (first
        | (go_at_call_of 28 C; refine (HCG2.out _ (by first | exact KD.out | exact hdr.out)).mono ?_; rintro e0 wC ⟨AC, cC, rfl, oC, kC⟩; have KC : Hid (Kp w2.drew wC) := (by first | exact KD.out.tr kC | exact hdr.out.tr kC); obtain ⟨KC2, qC, TOC⟩ := hK3.out _ KC.out; have RC : Hid (Rd wC AC g) := oC.sl.rd; have RX : Hid (Rd wC AD xs) := (by first | exact RD.out.kp kC); have qX := qC; have o0 := TOC.out.c0; have o1 := TOC.out.c1; have u0 := TOC.out.f0 0; have u1 := TOC.out.f0 1; clear kC oC)
        | (go_at_call_of 28 B; refine (HCX2.out _ (by first | exact KC.out | exact hdr.out)).mono ?_; rintro e0 wD ⟨AD, cD, rfl, oD, kD⟩; have KD : Hid (Kp w2.drew wD) := (by first | exact KC.out.tr kD | exact hdr.out.tr kD); obtain ⟨KD2, qD, TOD⟩ := hK3.out _ KD.out; have RD : Hid (Rd wD AD xs) := oD.sl.rd; have RX : Hid (Rd wD AC g) := (by first | exact RC.out.kp kD); have qX := qD; have o0 := TOD.out.c0; have o1 := TOD.out.c1; have u0 := TOD.out.f0 0; have u1 := TOD.out.f0 1; clear kD oD)
        | (go_at_call_of 28 C; refine (HCG2.out _ hdr.out).mono ?_; rintro e0 wC ⟨AC, cC, rfl, oC, kC⟩; have KC : Hid (Kp w2.drew wC) := hdr.out.tr kC; obtain ⟨KC2, qC, TOC⟩ := hK3.out _ KC.out; have RC : Hid (Rd wC AC g) := oC.sl.rd; clear kC oC)
        | (go_at_call_of 28 B; refine (HCX2.out _ hdr.out).mono ?_; rintro e0 wD ⟨AD, cD, rfl, oD, kD⟩; have KD : Hid (Kp w2.drew wD) := hdr.out.tr kD; obtain ⟨KD2, qD, TOD⟩ := hK3.out _ KD.out; have RD : Hid (Rd wD AD xs) := oD.sl.rd; clear kD oD))
      all_goals
        go_wp2
        refine bodyPost_ret (v := .tuple #[.agg #[.slice AC g.length cC, .slice AD xs.length cD], .int .i64 0]) (by simp [results, Try.results11, go_sem, o0, o1]; try rfl) rfl ?_
        first
        | exact RetT.of HF.out (RX.out.past TOD.out _ _) (RD.out.past TOD.out _ _) (((K2.out.tr KD2.out).setCell (p := ⟨w.heap.size + 1, 0, none⟩) (Nat.le_succ _) _).setCell (p := ⟨w.heap.size + 1, 1, none⟩) (Nat.le_succ _) _)
        | exact RetT.of HF.out (RC.out.past TOC.out _ _) (RX.out.past TOC.out _ _) (((K2.out.tr KC2.out).setCell (p := ⟨w.heap.size + 1, 0, none⟩) (Nat.le_succ _) _).setCell (p := ⟨w.heap.size + 1, 1, none⟩) (Nat.le_succ _) _)
    · have HF : Hid (reshapeV s xs g = ([], [], 20)) := by show reshapeV s xs g = _; unfold reshapeV; rw [if_neg (by simp [ht]), if_neg (by rw [hN]; exact hq)]
      have q2 : (N != (xs.length : Int)) = true := by simpa using hq
      clear ht hN hq hA hB hC hx64
      go_enter Try.func11, Try.ntmps11
      go_wp2_with fail
      refine (Calls.mono (Hid.out HT)) ?_; rintro e0 w1 ⟨rfl, k1⟩
      have F1 := Lib.hid (F0.out.tr k1)
      obtain ⟨_, b0, b1, r0, r1, f0, f1, _⟩ := F1.out
      clear k1
      go_wp2
      go_quiet ((go_at_call 27; exact quiet_same (HS.out _ (F1.out.kp.tr (Kp.drewN_ _ _)))))
      go_wp2
      refine bodyPost_ret (v := .tuple #[.agg #[.slice none 0 0, .slice none 0 0], .int .i64 20]) (by simp [results, Try.results11, go_sem, r0, r1]; try rfl) rfl ?_
      exact RetT.err HF.out ((F1.out.tr (Kp.drewN_ _ _)).end_ _ _)
end Go.Proofs.Ytdjfjhanffliiaa
