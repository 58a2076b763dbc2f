import Derived.Test.YtjkdcegmdfmjpaaGreatTk
import Derived.Test.YtjkdcegmdfmjpaaGreatEvZb
set_option maxHeartbeats 16000000
set_option maxRecDepth 100000
set_option linter.unusedVariables false
set_option linter.unusedSimpArgs false
namespace Go.Proofs.YtjkdcegmdfmjpaaGreat.Ez
open Go.RowKit Go.Proofs.ShM Go.Proofs.GrM Go.Proofs.InM Go.Proofs.ImM Go.Proofs.FixM Go.Proofs.EvM
def RetTv (t : T) (w : World) (e : Ending) (w' : World) : Prop :=
 ∃ A c B d, e = .returned (.agg #[.slice A t.1.length c, .slice B t.2.length d]) ∧ Hid (TRc w' A c B d t) ∧ Hid (Kp w w')
theorem param_e (R : Option Addr) (k rc : Nat) (ps : List T) (p : Int) (w : World) (h : RdT w R ps) (hk : k = ps.length) (hp : 0 ≤ p) :
  Calls Tryz.prog 34 #[.slice R k rc, .int .i64 p] w (RetTv (parT ps p) w) := by
 obtain ⟨q, rfl⟩ : ∃ q : Nat, p = (q : Int) := ⟨p.toNat, by omega⟩
 have hl := h.len
 subst hk
 by_cases hq : q < ps.length
 ·obtain ⟨ad, t, P, c, Q, d, rfl, hb, ht, c0, c1, r, x1, x2, b1, b2⟩ := h.at_c hq
  have hv : parT ps (q : Int) = t := by
   unfold parT
   rw [if_pos hp, Int.toNat_natCast, List.getD_eq_getElem?_getD, ht]; rfl
  rw [hv]
  have HT : Hid (TRc (w.alloc (.cells #[.slice P t.1.length c, .slice Q t.2.length d] 27)) P c Q d t) := ⟨r.alloc_ _, b1, b2⟩
  have z0 : (w.alloc (.cells #[.slice none 0 0, .slice none 0 0] 27)).cell? (ad.add (q * 2)) = some (.slice P t.1.length c) := Iz.kp_cell c0 (Kp.alloc_ _ _)
  have z1 : (w.alloc (.cells #[.slice none 0 0, .slice none 0 0] 27)).cell? ⟨(ad.add (q * 2)).block, (ad.add (q * 2)).off + 1, none⟩ = some (.slice Q t.2.length d) := Iz.kp_cell c1 (Kp.alloc_ _ _)
  have hq1 : ¬ (ps.length : Int) ≤ (q : Int) := by omega
  have hq2 : (q : Int) < (ps.length : Int) := by omega
  clear hv h r x1 x2 b1 b2 ht hp c0 c1
  go_enter Tryz.func34, Tryz.ntmps34
  go_wp2
  refine bodyPost_ret (v := .agg #[.slice P t.1.length c, .slice Q t.2.length d]) (by simp [results, Tryz.results34, go_sem]; try rfl) rfl ?_
  exact ⟨P, c, Q, d, rfl, HT.out, Kp.alloc_ _ _⟩
 ·have hv : parT ps (q : Int) = eT := by
   unfold parT
   rw [if_pos hp, Int.toNat_natCast, List.getD_eq_getElem?_getD, List.getElem?_eq_none (by omega)]; rfl
  rw [hv]
  have hq1 : (ps.length : Int) ≤ (q : Int) := by omega
  clear hv h hp
  go_enter Tryz.func34, Tryz.ntmps34
  go_wp2
  refine bodyPost_ret (v := .agg #[.slice none 0 0, .slice none 0 0]) (by simp [results, Tryz.results34, go_sem]; try rfl) rfl ?_
  exact ⟨none, 0, none, 0, rfl, ⟨TR.nil_, by simp [eT], by simp [eT]⟩, Kp.alloc_ _ _⟩
theorem er_given (t : T) (s : List Int) : (givenV t s).2 ≠ 0 → (givenV t s).1.1 = [] ∧ (givenV t s).1.2 = [] := by
 unfold givenV
 split
 ·exact fun h => absurd rfl h
 ·exact fun _ => ⟨rfl, rfl⟩
theorem given_e (P Q A : Option Addr) (n c m d k e : Nat) (t : T) (s : List Int) (w : World) (h : TR w P t.1 Q t.2) (g : Rd w A s) (hn : n = t.1.length) (hm : m = t.2.length) (hk : k = s.length) :
  Calls Tryz.prog 32 #[.agg #[.slice P n c, .slice Q m d], .slice A k e] w (RetTo (givenV t s) w) := by
 have ln := h.s.len
 have lm := h.d.len
 rw [← hn] at ln
 rw [← hm] at lm
 have K0 : Hid (Kp w ((w.alloc (.cells #[.slice P n c, .slice Q m d] 27)).alloc (.cells #[.slice none 0 0, .slice none 0 0, .int .i64 0] 53))) := (Kp.alloc_ _ _).tr (Kp.alloc_ _ _)
 have B0 : Hid (Bk ((w.alloc (.cells #[.slice P n c, .slice Q m d] 27)).alloc (.cells #[.slice none 0 0, .slice none 0 0, .int .i64 0] 53)) w.heap.size P n c Q m d) := (Bk.new rfl).alloc_ _
 have F0 : Hid (Bx ((w.alloc (.cells #[.slice P n c, .slice Q m d] 27)).alloc (.cells #[.slice none 0 0, .slice none 0 0, .int .i64 0] 53)) (w.heap.size + 1) [.slice none 0 0, .slice none 0 0, .int .i64 0] 53) := Bx.new (by rw [World.size_alloc])
 have HCK : Hid (∀ V, Kp w V → Calls Tryz.prog 13 #[.agg #[.slice P n c, .slice Q m d]] V fun e w' => e = .returned (.bool (tokT t)) ∧ Kp V w') := fun V kV => by
  rw [hn, hm]
  exact tcheck_any P Q c d t.1 t.2 V (h.s.kp kV) (h.d.kp kV)
 have HEQ : Hid (∀ V, Kp w V → Calls Tryz.prog 52 #[.slice P n c, .slice A k e] V fun e w' => e = .returned (.bool (t.1 == s)) ∧ Kp V w') := fun V kV => by
  rw [hn, hk]
  exact (equal_any P A c e t.1 s V (h.s.kp kV) (g.kp kV)).mono fun e0 w' hh => ⟨hh.1, by obtain ⟨q, rfl⟩ := hh.2; exact Kp.drewN_ _ q⟩
 obtain ⟨W0, hW0⟩ := eX (((w.alloc (.cells #[.slice P n c, .slice Q m d] 27)).alloc (.cells #[.slice none 0 0, .slice none 0 0, .int .i64 0] 53)))
 rw [← hW0] at F0 K0 B0
 have HW := lH hW0
 cases hc : tokT t with
 | false =>
  have hr : givenV t s = (eT, 130) := by unfold givenV; rw [if_neg (by simp [hc])]
  rw [hr]
  rw [hc] at HCK
  clear hr hc h g hn hm hk hW0
  go_enter Tryz.func32, Tryz.ntmps32
  go_wp2_with fail
  rw [← HW.out]
  refine (HCK.out _ K0.out).mono ?_; rintro e0 w1 ⟨rfl, k1⟩
  have K1 := lH (K0.out.tr k1)
  have F1 := lH (F0.out.kp k1)
  clear k1
  have o0 := F1.out.cell (j := 0) rfl
  have o1 := F1.out.cell (j := 1) rfl
  have o2 := F1.out.cell (j := 2) rfl
  have f0 := F1.out.frz 0
  have f1 := F1.out.frz 1
  have f2 := F1.out.frz 2
  go_wp2
  refine bodyPost_ret (v := .agg #[.slice none 0 0, .slice none 0 0, .int .i64 130]) (by simp [results, Tryz.results32, go_sem, o0, o1, o2]; try rfl) rfl ?_
  exact RetTo.box (slice_ne _ _ _) (slice_ne _ _ _) rfl rfl rfl (fun _ => ⟨rfl, rfl⟩) (Nat.le_succ _) F1.out (Sl.nil_ _) (Sl.nil_ _) K1.out
 | true =>
  rw [hc] at HCK
  cases he : (t.1 == s) with
  | false =>
   have hr : givenV t s = (eT, 130) := by unfold givenV; rw [if_neg (by intro hh; simp [hh.2] at he)]
   rw [hr]
   rw [he] at HEQ
   have x0 := B0.out.c0
   clear hr hc he h g hn hm hk hW0
   go_enter Tryz.func32, Tryz.ntmps32
   go_wp2_with fail
   rw [← HW.out]
   refine (HCK.out _ K0.out).mono ?_; rintro e0 w1 ⟨rfl, k1⟩
   have K1 := lH (K0.out.tr k1)
   have F1 := lH (F0.out.kp k1)
   have y0 := (B0.out.kp k1).c0
   clear k1 x0
   go_wp2_with fail
   refine (HEQ.out _ K1.out).mono ?_; rintro e0 w2 ⟨rfl, k2⟩
   have K2 := lH (K1.out.tr k2)
   have F2 := lH (F1.out.kp k2)
   clear k2 y0
   have o0 := F2.out.cell (j := 0) rfl
   have o1 := F2.out.cell (j := 1) rfl
   have o2 := F2.out.cell (j := 2) rfl
   have f0 := F2.out.frz 0
   have f1 := F2.out.frz 1
   have f2 := F2.out.frz 2
   go_wp2
   refine bodyPost_ret (v := .agg #[.slice none 0 0, .slice none 0 0, .int .i64 130]) (by simp [results, Tryz.results32, go_sem, o0, o1, o2]; try rfl) rfl ?_
   exact RetTo.box (slice_ne _ _ _) (slice_ne _ _ _) rfl rfl rfl (fun _ => ⟨rfl, rfl⟩) (Nat.le_succ _) F2.out (Sl.nil_ _) (Sl.nil_ _) K2.out
  | true =>
   have hr : givenV t s = (t, 0) := by unfold givenV; rw [if_pos ⟨hc, by simpa using he⟩]
   rw [hr]
   rw [he] at HEQ
   have hfew := Go.Proofs.EvM.tok_few hc
   have H1 : Hid (∀ V, Kp w V → Calls Tryz.prog 23 #[.slice P n c] V (RetW t.1 V)) := fun V kV => by
    rw [hn]; exact Iz.clone_i P c t.1 V (h.s.kp kV) (by omega)
   have H2 : Hid (∀ V, Kp w V → Calls Tryz.prog 23 #[.slice Q m d] V (RetW t.2 V)) := fun V kV => by
    rw [hm]; exact Iz.clone_i Q d t.2 V (h.d.kp kV) (by omega)
   have x0 := B0.out.c0
   clear hr hc he h g hn hm hk hW0 hfew
   go_enter Tryz.func32, Tryz.ntmps32
   go_wp2_with fail
   rw [← HW.out]
   refine (HCK.out _ K0.out).mono ?_; rintro e0 w1 ⟨rfl, k1⟩
   have K1 := lH (K0.out.tr k1)
   have F1 := lH (F0.out.kp k1)
   have B1 := lH (B0.out.kp k1)
   have y0 := B1.out.c0
   clear k1 x0
   go_wp2_with fail
   refine (HEQ.out _ K1.out).mono ?_; rintro e0 w2 ⟨rfl, k2⟩
   have K2 := lH (K1.out.tr k2)
   have F2 := lH (F1.out.kp k2)
   have B2 := lH (B1.out.kp k2)
   have HSS : Hid (∀ V, Kp w2 V → V.cell? ⟨w.heap.size, 0, none⟩ = some (.slice P n c) ∧ V.cell? ⟨w.heap.size, 1, none⟩ = some (.slice Q m d)) := fun V kV => ⟨(B2.out.kp kV).c0, (B2.out.kp kV).c1⟩
   have hS0 := HSS.out _ (Kp.refl _)
   clear k2 y0
   go_wp2_with fail
   refine wp_region_held_drew (S := fun V => V.cell? ⟨w.heap.size, 0, none⟩ = some (.slice P n c) ∧ V.cell? ⟨w.heap.size, 1, none⟩ = some (.slice Q m d)) (by kernel_rfl) (HSS.out _ (Below.drew (Kp.refl _))) (fun hHeld => ?_)
   have X2 : Hid (Kp w2 w2.drew) := Below.drew (Kp.refl _)
   generalize w2.drew = V0 at X2 hHeld ⊢
   refine tK 0 (.pointer (some ⟨w.heap.size, 0, none⟩)) rfl hHeld <| tK 1 (.slice P n c) rfl hHeld <| tK 3 (.pointer (some ⟨w.heap.size, 1, none⟩)) rfl hHeld <| tK 4 (.slice Q m d) rfl hHeld ?_
   refine rD 2 rfl fun K9_ hK => ?_
   ·go_simp
    refine (H1.out _ (K2.out.tr X2.out)).mono ?_; rintro e3 w3 ⟨A3, c3, rfl, o3, k3⟩
    dsimp only
    have X3 : Hid (Kp w2 w3) := X2.out.tr k3
    have L3 := lH o3.sl
    have hS3 := HSS.out _ X3.out
    clear k3 o3
    refine hK.out _ _ (hS3) fun hHeld => ?_
    clear hK
    refine rD 5 rfl fun K9_ hK => ?_
    go_simp
    refine (H2.out _ (K2.out.tr X3.out)).mono ?_; rintro e4 w4 ⟨B3, d3, rfl, o4, k4⟩
    dsimp only
    have X4 : Hid (Kp w2 w4) := X3.out.tr k4
    have L4 := lH o4.sl
    have M4 := lH (L3.out.kp k4)
    have hS4 := HSS.out _ X4.out
    clear k4 o4
    refine hK.out _ _ (hS4) fun hHeld => ?_
    clear hK
    refine tK 6 (.agg #[.slice A3 t.1.length c3, .slice B3 t.2.length d3]) rfl hHeld ?_
    refine rD 7 rfl fun K9_ hK => ?_
    go_simp
    refine (tell_t _ _ _ _ _ _ _ _).mono ?_; rintro e5 w5 ⟨rfl, k5⟩
    dsimp only
    have X5 : Hid (Kp w2 w5) := X4.out.tr k5
    have L5 := lH (L4.out.kp k5)
    have M5 := lH (M4.out.kp k5)
    have F5 := lH (F2.out.kp X5.out)
    have K5 := lH (K2.out.tr X5.out)
    have hS5 := HSS.out _ X5.out
    clear k5
    refine hK.out _ _ (hS5) fun hHeld => ?_
    clear hK
    have o0 := F5.out.cell (j := 0) rfl
    have o1 := F5.out.cell (j := 1) rfl
    have o2 := F5.out.cell (j := 2) rfl
    have f0 := F5.out.frz 0
    have f1 := F5.out.frz 1
    have f2 := F5.out.frz 2
    have hS6 : (((w5.setCell ⟨w.heap.size + 1, 0, none⟩ (.slice A3 t.1.length c3)).setCell ⟨w.heap.size + 1, 1, none⟩ (.slice B3 t.2.length d3)).setCell ⟨w.heap.size + 1, 2, none⟩ (.int .i64 0)).cell? ⟨w.heap.size, 0, none⟩ = some (.slice P n c) ∧ (((w5.setCell ⟨w.heap.size + 1, 0, none⟩ (.slice A3 t.1.length c3)).setCell ⟨w.heap.size + 1, 1, none⟩ (.slice B3 t.2.length d3)).setCell ⟨w.heap.size + 1, 2, none⟩ (.int .i64 0)).cell? ⟨w.heap.size, 1, none⟩ = some (.slice Q m d) := by
     obtain ⟨u0, u1⟩ := hS5
     constructor <;> simp [go_sem, u0, u1]
    refine rD 8 rfl fun K9_ hK => ?_
    go_simp
    refine hK.out _ _ (hS6) fun hHeld => ?_
    clear hK
    refine wpAnyH_done (by kernel_rfl) ?_ _
    clear hHeld hS0 hS3 hS4 hS5 hS6 HSS
    go_wp2
    refine bodyPost_ret (v := .agg #[.slice A3 t.1.length c3, .slice B3 t.2.length d3, .int .i64 0]) (by simp [results, Tryz.results32, go_sem, o0, o1, o2]; try rfl) rfl ?_
    exact RetTo.box (slice_ne _ _ _) (slice_ne _ _ _) rfl rfl rfl (fun hh => absurd rfl hh) (Nat.le_succ _) F5.out M5.out L5.out K5.out
section
variable {W : World} {bj bn ba bb : Nat} {op : Int} {Q A1 A2 B1 B2 I1 I2 R S : Option Addr} {d a1 a2 b1 b2 i1 i2 rc sc : Nat} {nums : List Int} {a b inp : T} {ps : List T} {s : List Int}
theorem input_e (H : Ej W bj bn ba bb op Q A1 A2 B1 B2 I1 I2 R S d a1 a2 b1 b2 i1 i2 rc sc nums a b inp ps s) : Calls Tryz.prog 31 #[.pointer (some ⟨bj, 0, none⟩)] W (RetTo (givenV inp s) W) := by
 have x7 := H.j7
 have x8 := H.j8
 have x10 := H.j10
 have lbj : bj < W.heap.size := Iz.lt_cell H.j7
 have HC : Hid (∀ V, Kp W V → Calls Tryz.prog 32 #[.agg #[.slice I1 inp.1.length i1, .slice I2 inp.2.length i2], .slice S s.length sc] V (RetTo (givenV inp s) V)) := fun V kV => given_e I1 I2 S _ i1 _ i2 _ sc inp s V (H.ri.r.kp kV) (H.rs.rd.kp kV) rfl rfl rfl
 have HE := lH (er_given inp s)
 obtain ⟨Q3, hQ⟩ := eX (givenV inp s)
 rw [← hQ] at HC HE ⊢
 have F0 : Hid (Bx (W.alloc (.cells #[.slice none 0 0, .slice none 0 0, .int .i64 0] 53)) W.heap.size [.slice none 0 0, .slice none 0 0, .int .i64 0] 53) := Bx.new rfl
 have K0 : Hid (Kp W (W.alloc (.cells #[.slice none 0 0, .slice none 0 0, .int .i64 0] 53))) := Kp.alloc_ _ _
 clear H hQ
 go_enter Tryz.func31, Tryz.ntmps31
 go_wp2_with fail
 refine (HC.out _ K0.out).mono ?_; rintro e1 w2 ⟨A3, c3, B3, d3, rfl, s3, t3, k1⟩
 have K2 := lH (K0.out.tr k1)
 have F2 := lH (F0.out.kp k1)
 have S2 := lH s3; have T2 := lH t3
 clear k1 s3 t3 x7 x8 x10
 have o0 := F2.out.cell (j := 0) rfl
 have o1 := F2.out.cell (j := 1) rfl
 have o2 := F2.out.cell (j := 2) rfl
 have f0 := F2.out.frz 0
 have f1 := F2.out.frz 1
 have f2 := F2.out.frz 2
 go_wp2
 refine bodyPost_ret (v := .agg #[.slice A3 Q3.1.1.length c3, .slice B3 Q3.1.2.length d3, .int .i64 Q3.2]) (by simp [results, Tryz.results31, go_sem, o0, o1, o2]; try rfl) rfl ?_
 exact RetTo.box (slice_ne _ _ _) (slice_ne _ _ _) rfl rfl rfl HE.out (Nat.le_refl _) F2.out S2.out T2.out K2.out
theorem full_e (H : Ej W bj bn ba bb op Q A1 A2 B1 B2 I1 I2 R S d a1 a2 b1 b2 i1 i2 rc sc nums a b inp ps s) (h1 : nums.length = 1) : Calls Tryz.prog 35 #[.pointer (some ⟨bn, 0, none⟩)] W (RetTo (tnE (fullV [] (nums.getD 0 0))) W) := by
 obtain ⟨x, rfl⟩ := Iz.one_list h1
 obtain ⟨aq, rfl, hlt, hc⟩ := H.rn.2 (by simp)
 have y0 : W.cell? aq = some (.int .i64 x) := by simpa [Addr.add] using hc 0 x rfl
 have xn0 : W.cell? ⟨bn, 0, none⟩ = some (.slice (some aq) 1 d) := H.n0
 have lbn : bn < W.heap.size := Iz.lt_cell H.n0
 obtain ⟨Q4, hQ⟩ : ∃ Q3, Q3 = fullV [] x := ⟨_, rfl⟩
 have HC : Hid (∀ V, Kp W V → Calls Tryz.prog 11 #[.slice none 0 0, .int .i64 x] V (RetT Q4 V)) := fun V kV => by rw [hQ]; exact full_any none 0 [] x V (Rd.nil _ _)
 have HE : Hid (Q4.2.2 ≠ 0 → Q4.1 = [] ∧ Q4.2.1 = []) := by show _; rw [hQ]; exact er_full [] x
 have HG : Hid (RetTo (tnE (fullV [] (([x] : List Int).getD 0 0))) W = RetTo (tnE Q4) W) := by rw [hQ]; rfl
 rw [HG.out]
 have F0 : Hid (Bx (W.alloc (.cells #[.slice none 0 0, .slice none 0 0, .int .i64 0] 53)) W.heap.size [.slice none 0 0, .slice none 0 0, .int .i64 0] 53) := Bx.new rfl
 have K0 : Hid (Kp W (W.alloc (.cells #[.slice none 0 0, .slice none 0 0, .int .i64 0] 53))) := Kp.alloc_ _ _
 clear H hQ hc h1 HG
 go_enter Tryz.func35, Tryz.ntmps35
 go_wp2_with fail
 refine (HC.out _ K0.out).mono ?_; rintro e1 w1 ⟨A3, c3, B3, d3, rfl, s3, t3, k1⟩
 have K1 := lH (K0.out.tr k1)
 have F1 := lH (F0.out.kp k1)
 have S1 := lH s3; have T1 := lH t3
 clear k1 s3 t3 y0 xn0
 dsimp only
 go_wp2_with fail
 refine (tell_t _ _ _ _ _ _ _ _).mono ?_; rintro e2 w2 ⟨rfl, k2⟩
 have K2 := lH (K1.out.tr k2)
 have F2 := lH (F1.out.kp k2)
 have S2 := lH (S1.out.kp k2); have T2 := lH (T1.out.kp k2)
 clear k2
 have o0 := F2.out.cell (j := 0) rfl
 have o1 := F2.out.cell (j := 1) rfl
 have o2 := F2.out.cell (j := 2) rfl
 have f0 := F2.out.frz 0
 have f1 := F2.out.frz 1
 have f2 := F2.out.frz 2
 go_wp2
 refine bodyPost_ret (v := .agg #[.slice A3 Q4.1.length c3, .slice B3 Q4.2.1.length d3, .int .i64 Q4.2.2]) (by simp [results, Tryz.results35, go_sem, o0, o1, o2]; try rfl) rfl ?_
 exact RetTo.box (slice_ne _ _ _) (slice_ne _ _ _) rfl rfl rfl HE.out (Nat.le_refl _) F2.out S2.out T2.out K2.out
theorem parm_e (H : Ej W bj bn ba bb op Q A1 A2 B1 B2 I1 I2 R S d a1 a2 b1 b2 i1 i2 rc sc nums a b inp ps s) (h1 : 1 ≤ nums.length) (hp : 0 ≤ nums.getD 0 0) : Calls Tryz.prog 33 #[.pointer (some ⟨bj, 0, none⟩), .pointer (some ⟨bn, 0, none⟩)] W (RetTo (givenV (parT ps (nums.getD 0 0)) s) W) := by
 obtain ⟨p, hp0⟩ := eX (nums.getD 0 0)
 have hq : nums[0]? = some p := by rw [hp0, List.getD_eq_getElem?_getD, List.getElem?_eq_getElem (by omega)]; rfl
 rw [← hp0] at hp ⊢
 obtain ⟨aq, rfl, hlt, hc⟩ := H.rn.2 (by omega)
 have y0 : W.cell? aq = some (.int .i64 p) := by simpa [Addr.add] using hc 0 p hq
 obtain ⟨nl, hnl⟩ := eX (nums.length)
 have hpos : (0 : Int) < (nl : Int) := by omega
 have hpos2 : ¬ nl = 0 := by omega
 have xn0 : W.cell? ⟨bn, 0, none⟩ = some (.slice (some aq) nl d) := by rw [hnl]; exact H.n0
 have x9 := H.j9
 have x10 := H.j10
 obtain ⟨u, hu⟩ := eX (parT ps p)
 have HP : Hid (∀ V, Kp W V → Calls Tryz.prog 34 #[.slice R ps.length rc, .int .i64 p] V (RetTv u V)) := fun V kV => by rw [hu]; exact param_e R _ rc ps p V (H.rp.kp kV) rfl hp
 have HC : Hid (∀ V P c Q d, Kp W V → TRc V P c Q d u → Calls Tryz.prog 32 #[.agg #[.slice P u.1.length c, .slice Q u.2.length d], .slice S s.length sc] V (RetTo (givenV u s) V)) := fun V P c Q d kV hT => given_e P Q S _ c _ d _ sc u s V hT.r (H.rs.rd.kp kV) rfl rfl rfl
 have HE := lH (er_given u s)
 rw [← hu]
 obtain ⟨Q3, hQ⟩ := eX (givenV u s)
 rw [← hQ] at HC HE ⊢
 have HSS : Hid (∀ V, Kp W V → V.cell? ⟨bj, 9, none⟩ = some (.slice R ps.length rc) ∧ V.cell? ⟨bj, 10, none⟩ = some (.slice S s.length sc) ∧ V.cell? ⟨bn, 0, none⟩ = some (.slice (some aq) nl d) ∧ V.cell? aq = some (.int .i64 p)) := fun V kV => ⟨Iz.kp_cell x9 kV, Iz.kp_cell x10 kV, Iz.kp_cell xn0 kV, Iz.kp_cell y0 kV⟩
 have F0 : Hid (Bx (W.alloc (.cells #[.slice none 0 0, .slice none 0 0, .int .i64 0] 53)) W.heap.size [.slice none 0 0, .slice none 0 0, .int .i64 0] 53) := Bx.new rfl
 have K0 : Hid (Kp W (W.alloc (.cells #[.slice none 0 0, .slice none 0 0, .int .i64 0] 53))) := Kp.alloc_ _ _
 clear H hQ hc h1 hlt hq hp0 hu hp hnl x9 x10 xn0 y0
 obtain ⟨W0, hW0⟩ := eX ((W.alloc (.cells #[.slice none 0 0, .slice none 0 0, .int .i64 0] 53)))
 rw [← hW0] at F0 K0
 have HW := lH hW0
 have K4 : Hid (Kp W0 W0.drew) := Below.drew (Kp.refl W0)
 have hS0 := HSS.out _ K0.out
 clear hW0
 go_enter Tryz.func33, Tryz.ntmps33
 go_wp2_with fail
 rw [← HW.out]
 refine wp_region_held_drew (S := fun V => V.cell? ⟨bj, 9, none⟩ = some (.slice R ps.length rc) ∧ V.cell? ⟨bj, 10, none⟩ = some (.slice S s.length sc) ∧ V.cell? ⟨bn, 0, none⟩ = some (.slice (some aq) nl d) ∧ V.cell? aq = some (.int .i64 p)) (by kernel_rfl) (HSS.out _ (Below.drew K0.out)) (fun hHeld => ?_)
 have hdr : Hid (Kp W W0.drew) := Below.drew K0.out
 have FB := lH (F0.out.kp K4.out)
 generalize W0.drew = V0 at hdr hHeld FB ⊢
 refine tK 0 (.pointer (some ⟨bj, 9, none⟩)) rfl hHeld <| tK 1 (.slice R ps.length rc) rfl hHeld <| tK 2 (.slice (some aq) nl d) rfl hHeld <| tK 3 (.pointer (some aq)) rfl hHeld <| tK 4 (.int .i64 p) rfl hHeld <| tK 6 (.pointer (some ⟨bj, 10, none⟩)) rfl hHeld <| tK 7 (.slice S s.length sc) rfl hHeld ?_
 refine rD 5 rfl fun K9_ hK => ?_
 go_simp
 refine (HP.out _ hdr.out).mono ?_; rintro e1 w1 ⟨P1, r1, Q1, q1, rfl, ht, k1⟩
 dsimp only
 have K1 := lH (hdr.out.tr k1.out)
 have F1 := lH (FB.out.kp k1.out)
 have hS1 := HSS.out _ K1.out
 clear k1
 refine hK.out _ _ (hS1) fun hHeld => ?_
 clear hK
 refine rD 8 rfl fun K9_ hK => ?_
 go_simp
 refine (HC.out _ _ _ _ _ K1.out ht.out).mono ?_; rintro e2 w2 ⟨A3, c3, B3, d3, rfl, s3, t3, k2⟩
 dsimp only
 have K2 := lH (K1.out.tr k2)
 have F2 := lH (F1.out.kp k2)
 have S2 := lH s3; have T2 := lH t3
 have hS2 := HSS.out _ K2.out
 clear k2 s3 t3
 refine hK.out _ _ (hS2) fun hHeld => ?_
 clear hK
 have o0 := F2.out.cell (j := 0) rfl
 have o1 := F2.out.cell (j := 1) rfl
 have o2 := F2.out.cell (j := 2) rfl
 have f0 := F2.out.frz 0
 have f1 := F2.out.frz 1
 have f2 := F2.out.frz 2
 have hS3 := HSS.out _ (((K2.out.setCell (p := ⟨W.heap.size, 0, none⟩) (Nat.le_refl _) (.slice A3 Q3.1.1.length c3)).setCell (p := ⟨W.heap.size, 1, none⟩) (Nat.le_refl _) (.slice B3 Q3.1.2.length d3)).setCell (p := ⟨W.heap.size, 2, none⟩) (Nat.le_refl _) (.int .i64 Q3.2))
 refine rD 9 rfl fun K9_ hK => ?_
 go_simp
 refine hK.out _ _ (hS3) fun hHeld => ?_
 clear hK
 refine wpAnyH_done (by kernel_rfl) ?_ _
 clear hHeld hS1 hS2 hS3 HSS
 go_wp2
 refine bodyPost_ret (v := .agg #[.slice A3 Q3.1.1.length c3, .slice B3 Q3.1.2.length d3, .int .i64 Q3.2]) (by simp [results, Tryz.results33, go_sem, o0, o1, o2]; try rfl) rfl ?_
 exact RetTo.box (slice_ne _ _ _) (slice_ne _ _ _) rfl rfl rfl HE.out (Nat.le_refl _) F2.out S2.out T2.out K2.out
end
open Go.RowKit Go.Proofs.ShM Go.Proofs.GrM Go.Proofs.InM Go.Proofs.ImM Go.Proofs.FixM Go.Proofs.EvM Go.Proofs.YtjkdcegmdfmjpaaGreat.Gz
theorem wpList_insE {W : World} {g : Nat} {L : List (Int × Value)} {ops : Array Oper} {rest : List Oper} {o : Oper} {a : Act} {Q : Exit → Act → World → Prop} (hg : o.guard = none) (m x v : Operand)
  (hop : o.op = Op.insert 48 m x v) (k : Int) (val : Value) (hm : a.eval m = .map (some g)) (hx : a.eval x = .int .i64 k) (hv : a.eval v = val) (h : Md W g L) (hn : atM L k = none)
  (hK : ∀ W', Md W' g (L ++ [(k, val)]) → (∀ B, B ≤ g → Below B W W') → wpList Tryz.prog ops Q rest (a.put o.dst undef) W') : wpList Tryz.prog ops Q (o :: rest) a W := by
 refine wpList_plain hg fun K' hK' => ?_
 obtain ⟨W', hrun, r1, r2⟩ := h.put Tryz.underlying48 Tryz.underlying3 hn val
 unfold Oper.wp
 simp [execOp, hop, hm, hx, hv, hrun, Result.andThen]
 exact hK' _ _ (hK W' r1 r2)
def ruE (pj pn pa pb : Value) : List (Int × Value) :=
 [(1, .func (.func 31) #[] #[pj]), (2, .func (.func 33) #[] #[pj, pn]), (3, .func (.func 35) #[] #[pn]), (10, .func (.func 29) #[] #[pj, pa, pb]), (11, .func (.func 29) #[] #[pj, pa, pb]), (12, .func (.func 29) #[] #[pj, pa, pb]), (13, .func (.func 29) #[] #[pj, pa, pb]), (20, .func (.func 26) #[] #[pj, pa]), (21, .func (.func 26) #[] #[pj, pa]), (22, .func (.func 26) #[] #[pj, pa]), (23, .func (.func 26) #[] #[pj, pa]), (30, .func (.func 36) #[] #[pa, pb]), (40, .func (.func 38) #[] #[pa, pn]), (41, .func (.func 40) #[] #[pa]), (42, .func (.func 42) #[] #[pa, pn]), (43, .func (.func 44) #[] #[pa, pb, pn]), (50, .func (.func 46) #[] #[pa, pn]), (51, .func (.func 48) #[] #[pa, pn]), (52, .func (.func 50) #[] #[pa, pn])]
def ruW (bj bn ba bb : Nat) : List (Int × Value) := ruE (.pointer (some ⟨bj, 0, none⟩)) (.pointer (some ⟨bn, 0, none⟩)) (.pointer (some ⟨ba, 0, none⟩)) (.pointer (some ⟨bb, 0, none⟩))
theorem rules_e (op : Int) (P Q A1 A2 B1 B2 I1 I2 R S : Option Addr) (nP cP m d n1 a1 n2 a2 m1 b1 m2 b2 k1 i1 k2 i2 kr rc ks sc : Nat) (w : World) :
  Calls Tryz.prog 17 #[.agg #[.int .i64 op, .slice P nP cP, .slice Q m d, .slice A1 n1 a1, .slice A2 n2 a2, .slice B1 m1 b1, .slice B2 m2 b2, .slice I1 k1 i1, .slice I2 k2 i2, .slice R kr rc, .slice S ks sc]] w fun e0 w' => ∃ g bn ba bb, e0 = .returned (.map (some g)) ∧ Md w' g (ruW w.heap.size bn ba bb) ∧ Hid (Kp w w') ∧
   Hid (Bx w' w.heap.size [.int .i64 op, .slice P nP cP, .slice Q m d, .slice A1 n1 a1, .slice A2 n2 a2, .slice B1 m1 b1, .slice B2 m2 b2, .slice I1 k1 i1, .slice I2 k2 i2, .slice R kr rc, .slice S ks sc] 51) ∧ Hid (Bx w' bn [.slice Q m d] 22) ∧ Hid (Bx w' ba [.slice A1 n1 a1, .slice A2 n2 a2] 27) ∧ Hid (Bx w' bb [.slice B1 m1 b1, .slice B2 m2 b2] 27) := by
 obtain ⟨w1, hw1⟩ := eX (w.alloc (.cells #[.int .i64 op, .slice P nP cP, .slice Q m d, .slice A1 n1 a1, .slice A2 n2 a2, .slice B1 m1 b1, .slice B2 m2 b2, .slice I1 k1 i1, .slice I2 k2 i2, .slice R kr rc, .slice S ks sc] 51))
 have BJ : Hid (Bx w1 w.heap.size [.int .i64 op, .slice P nP cP, .slice Q m d, .slice A1 n1 a1, .slice A2 n2 a2, .slice B1 m1 b1, .slice B2 m2 b2, .slice I1 k1 i1, .slice I2 k2 i2, .slice R kr rc, .slice S ks sc] 51) := by rw [hw1]; exact Bx.new rfl
 have K1 : Hid (Kp w w1) := by rw [hw1]; exact Kp.alloc_ _ _
 have HW1 := lH hw1
 have hmm := @run_makeMap Tryz.prog
 have hmf : ∀ (fn : Fn) (first cap : Array Value) (w : World), (Instr.makeFunc fn first cap).run Tryz.prog w = .ok (.func fn first cap) w := fun _ _ _ _ => rfl
 clear hw1
 go_enter Tryz.func17, Tryz.ntmps17
 go_wp2_with fail
 rw [← HW1.out]
 clear hmm
 go_cut [3, 4, 5] (fun v3 v4 v5 wx => ∃ bn ba bb, v3 = .pointer (some ⟨bn, 0, none⟩) ∧ v4 = .pointer (some ⟨ba, 0, none⟩) ∧ v5 = .pointer (some ⟨bb, 0, none⟩) ∧ Hid (Bx wx bn [.slice Q m d] 22) ∧ Hid (Bx wx ba [.slice A1 n1 a1, .slice A2 n2 a2] 27) ∧ Hid (Bx wx bb [.slice B1 m1 b1, .slice B2 m2 b2] 27) ∧ Hid (Kp w1 wx))
 case first =>
  have HSS : Hid (∀ V, Kp w1 V → V.cell? ⟨w.heap.size, 2, none⟩ = some (.slice Q m d) ∧ V.cell? ⟨w.heap.size, 3, none⟩ = some (.slice A1 n1 a1) ∧ V.cell? ⟨w.heap.size, 4, none⟩ = some (.slice A2 n2 a2) ∧ V.cell? ⟨w.heap.size, 5, none⟩ = some (.slice B1 m1 b1) ∧ V.cell? ⟨w.heap.size, 6, none⟩ = some (.slice B2 m2 b2)) := fun V kV => ⟨(BJ.out.kp kV).cell (j := 2) rfl, (BJ.out.kp kV).cell (j := 3) rfl, (BJ.out.kp kV).cell (j := 4) rfl, (BJ.out.kp kV).cell (j := 5) rfl, (BJ.out.kp kV).cell (j := 6) rfl⟩
  refine wp_region_held_drew (S := fun V => V.cell? ⟨w.heap.size, 2, none⟩ = some (.slice Q m d) ∧ V.cell? ⟨w.heap.size, 3, none⟩ = some (.slice A1 n1 a1) ∧ V.cell? ⟨w.heap.size, 4, none⟩ = some (.slice A2 n2 a2) ∧ V.cell? ⟨w.heap.size, 5, none⟩ = some (.slice B1 m1 b1) ∧ V.cell? ⟨w.heap.size, 6, none⟩ = some (.slice B2 m2 b2)) (by kernel_rfl) (HSS.out _ (Below.drew (Kp.refl _))) (fun hHeld => ?_)
  have X0 : Hid (Kp w1 w1.drew) := Below.drew (Kp.refl _)
  generalize w1.drew = V0 at X0 hHeld ⊢
  refine tK 0 (.pointer (some ⟨w.heap.size, 0, none⟩)) rfl hHeld <| tK 1 (.pointer (some ⟨w.heap.size, 2, none⟩)) rfl hHeld <| tK 2 (.slice Q m d) rfl hHeld <| tK 3 (.pointer (some ⟨w.heap.size, 3, none⟩)) rfl hHeld <| tK 4 (.agg #[.slice A1 n1 a1, .slice A2 n2 a2]) rfl hHeld <| tK 5 (.pointer (some ⟨w.heap.size, 5, none⟩)) rfl hHeld <| tK 6 (.agg #[.slice B1 m1 b1, .slice B2 m2 b2]) rfl hHeld ?_
  refine wpAnyH_ready (rs := [7, 8, 9]) (by kernel_rfl) (by simp) ?_
  refine AllReadyH.cons rfl (fun K9_ hK => ?o7) (AllReadyH.cons rfl (fun K9_ hK => ?o8) (AllReadyH.cons rfl (fun K9_ hK => ?o9) AllReadyH.nil))
  case' o7 =>
   go_simp
   refine hK.out _ _ (HSS.out _ (X0.out.tr (Kp.alloc_ _ _))) fun hHeld => ?_
   clear hK
   have Y7 : Hid (Bx (V0.alloc (.cells #[.slice none 0 0] 22)) V0.heap.size [.slice none 0 0] 22) := Bx.new rfl
   have X1 : Hid (Kp w1 (V0.alloc (.cells #[.slice none 0 0] 22))) := X0.out.tr (Kp.alloc_ _ _)
   have G7 : Hid (w1.heap.size ≤ V0.heap.size) := X0.out.size
   generalize V0.alloc (.cells #[.slice none 0 0] 22) = V1 at X1 Y7 hHeld ⊢
   generalize V0.heap.size = bn at Y7 G7  ⊢
   clear X0
   refine wpAnyH_ready (rs := [8, 9]) (by kernel_rfl) (by simp) ?_
   refine AllReadyH.cons rfl (fun K9_ hK => ?o78) (AllReadyH.cons rfl (fun K9_ hK => ?o79) AllReadyH.nil)
   case' o78 =>
    go_simp
    refine hK.out _ _ (HSS.out _ (X1.out.tr (Kp.alloc_ _ _))) fun hHeld => ?_
    clear hK
    have Y8 : Hid (Bx (V1.alloc (.cells #[.slice none 0 0, .slice none 0 0] 27)) V1.heap.size [.slice none 0 0, .slice none 0 0] 27) := Bx.new rfl
    have X2 : Hid (Kp w1 (V1.alloc (.cells #[.slice none 0 0, .slice none 0 0] 27))) := X1.out.tr (Kp.alloc_ _ _)
    have G8 : Hid (w1.heap.size ≤ V1.heap.size) := X1.out.size
    have N78 : Hid (bn ≠ V1.heap.size) := by have := Y7.out.lt; show _ ≠ _; omega
    replace Y7 := lH (Y7.out.kp (Kp.alloc_ V1 (.cells #[.slice none 0 0, .slice none 0 0] 27)))
    generalize V1.alloc (.cells #[.slice none 0 0, .slice none 0 0] 27) = V2 at X2 Y7 Y8 hHeld ⊢
    generalize V1.heap.size = ba at Y8 G8 N78 ⊢
    clear X1
    refine rD 9 rfl fun K9_ hK => ?_
    go_simp
    refine hK.out _ _ (HSS.out _ (X2.out.tr (Kp.alloc_ _ _))) fun hHeld => ?_
    clear hK
    have Y9 : Hid (Bx (V2.alloc (.cells #[.slice none 0 0, .slice none 0 0] 27)) V2.heap.size [.slice none 0 0, .slice none 0 0] 27) := Bx.new rfl
    have X3 : Hid (Kp w1 (V2.alloc (.cells #[.slice none 0 0, .slice none 0 0] 27))) := X2.out.tr (Kp.alloc_ _ _)
    have G9 : Hid (w1.heap.size ≤ V2.heap.size) := X2.out.size
    have N79 : Hid (bn ≠ V2.heap.size) := by have := Y7.out.lt; show _ ≠ _; omega
    replace Y7 := lH (Y7.out.kp (Kp.alloc_ V2 (.cells #[.slice none 0 0, .slice none 0 0] 27)))
    have N89 : Hid (ba ≠ V2.heap.size) := by have := Y8.out.lt; show _ ≠ _; omega
    replace Y8 := lH (Y8.out.kp (Kp.alloc_ V2 (.cells #[.slice none 0 0, .slice none 0 0] 27)))
    generalize V2.alloc (.cells #[.slice none 0 0, .slice none 0 0] 27) = V3 at X3 Y7 Y8 Y9 hHeld ⊢
    generalize V2.heap.size = bb at Y9 G9 N79 N89 ⊢
    clear X2
   case' o79 =>
    go_simp
    refine hK.out _ _ (HSS.out _ (X1.out.tr (Kp.alloc_ _ _))) fun hHeld => ?_
    clear hK
    have Y9 : Hid (Bx (V1.alloc (.cells #[.slice none 0 0, .slice none 0 0] 27)) V1.heap.size [.slice none 0 0, .slice none 0 0] 27) := Bx.new rfl
    have X2 : Hid (Kp w1 (V1.alloc (.cells #[.slice none 0 0, .slice none 0 0] 27))) := X1.out.tr (Kp.alloc_ _ _)
    have G9 : Hid (w1.heap.size ≤ V1.heap.size) := X1.out.size
    have N79 : Hid (bn ≠ V1.heap.size) := by have := Y7.out.lt; show _ ≠ _; omega
    replace Y7 := lH (Y7.out.kp (Kp.alloc_ V1 (.cells #[.slice none 0 0, .slice none 0 0] 27)))
    generalize V1.alloc (.cells #[.slice none 0 0, .slice none 0 0] 27) = V2 at X2 Y7 Y9 hHeld ⊢
    generalize V1.heap.size = bb at Y9 G9 N79 ⊢
    clear X1
    refine rD 8 rfl fun K9_ hK => ?_
    go_simp
    refine hK.out _ _ (HSS.out _ (X2.out.tr (Kp.alloc_ _ _))) fun hHeld => ?_
    clear hK
    have Y8 : Hid (Bx (V2.alloc (.cells #[.slice none 0 0, .slice none 0 0] 27)) V2.heap.size [.slice none 0 0, .slice none 0 0] 27) := Bx.new rfl
    have X3 : Hid (Kp w1 (V2.alloc (.cells #[.slice none 0 0, .slice none 0 0] 27))) := X2.out.tr (Kp.alloc_ _ _)
    have G8 : Hid (w1.heap.size ≤ V2.heap.size) := X2.out.size
    have N78 : Hid (bn ≠ V2.heap.size) := by have := Y7.out.lt; show _ ≠ _; omega
    replace Y7 := lH (Y7.out.kp (Kp.alloc_ V2 (.cells #[.slice none 0 0, .slice none 0 0] 27)))
    have N98 : Hid (bb ≠ V2.heap.size) := by have := Y9.out.lt; show _ ≠ _; omega
    replace Y9 := lH (Y9.out.kp (Kp.alloc_ V2 (.cells #[.slice none 0 0, .slice none 0 0] 27)))
    generalize V2.alloc (.cells #[.slice none 0 0, .slice none 0 0] 27) = V3 at X3 Y7 Y9 Y8 hHeld ⊢
    generalize V2.heap.size = ba at Y8 G8 N78 N98 ⊢
    clear X2
    have N89 : Hid (ba ≠ bb) := fun e => N98.out e.symm
  case' o8 =>
   go_simp
   refine hK.out _ _ (HSS.out _ (X0.out.tr (Kp.alloc_ _ _))) fun hHeld => ?_
   clear hK
   have Y8 : Hid (Bx (V0.alloc (.cells #[.slice none 0 0, .slice none 0 0] 27)) V0.heap.size [.slice none 0 0, .slice none 0 0] 27) := Bx.new rfl
   have X1 : Hid (Kp w1 (V0.alloc (.cells #[.slice none 0 0, .slice none 0 0] 27))) := X0.out.tr (Kp.alloc_ _ _)
   have G8 : Hid (w1.heap.size ≤ V0.heap.size) := X0.out.size
   generalize V0.alloc (.cells #[.slice none 0 0, .slice none 0 0] 27) = V1 at X1 Y8 hHeld ⊢
   generalize V0.heap.size = ba at Y8 G8  ⊢
   clear X0
   refine wpAnyH_ready (rs := [7, 9]) (by kernel_rfl) (by simp) ?_
   refine AllReadyH.cons rfl (fun K9_ hK => ?o87) (AllReadyH.cons rfl (fun K9_ hK => ?o89) AllReadyH.nil)
   case' o87 =>
    go_simp
    refine hK.out _ _ (HSS.out _ (X1.out.tr (Kp.alloc_ _ _))) fun hHeld => ?_
    clear hK
    have Y7 : Hid (Bx (V1.alloc (.cells #[.slice none 0 0] 22)) V1.heap.size [.slice none 0 0] 22) := Bx.new rfl
    have X2 : Hid (Kp w1 (V1.alloc (.cells #[.slice none 0 0] 22))) := X1.out.tr (Kp.alloc_ _ _)
    have G7 : Hid (w1.heap.size ≤ V1.heap.size) := X1.out.size
    have N87 : Hid (ba ≠ V1.heap.size) := by have := Y8.out.lt; show _ ≠ _; omega
    replace Y8 := lH (Y8.out.kp (Kp.alloc_ V1 (.cells #[.slice none 0 0] 22)))
    generalize V1.alloc (.cells #[.slice none 0 0] 22) = V2 at X2 Y8 Y7 hHeld ⊢
    generalize V1.heap.size = bn at Y7 G7 N87 ⊢
    clear X1
    refine rD 9 rfl fun K9_ hK => ?_
    go_simp
    refine hK.out _ _ (HSS.out _ (X2.out.tr (Kp.alloc_ _ _))) fun hHeld => ?_
    clear hK
    have Y9 : Hid (Bx (V2.alloc (.cells #[.slice none 0 0, .slice none 0 0] 27)) V2.heap.size [.slice none 0 0, .slice none 0 0] 27) := Bx.new rfl
    have X3 : Hid (Kp w1 (V2.alloc (.cells #[.slice none 0 0, .slice none 0 0] 27))) := X2.out.tr (Kp.alloc_ _ _)
    have G9 : Hid (w1.heap.size ≤ V2.heap.size) := X2.out.size
    have N89 : Hid (ba ≠ V2.heap.size) := by have := Y8.out.lt; show _ ≠ _; omega
    replace Y8 := lH (Y8.out.kp (Kp.alloc_ V2 (.cells #[.slice none 0 0, .slice none 0 0] 27)))
    have N79 : Hid (bn ≠ V2.heap.size) := by have := Y7.out.lt; show _ ≠ _; omega
    replace Y7 := lH (Y7.out.kp (Kp.alloc_ V2 (.cells #[.slice none 0 0, .slice none 0 0] 27)))
    generalize V2.alloc (.cells #[.slice none 0 0, .slice none 0 0] 27) = V3 at X3 Y8 Y7 Y9 hHeld ⊢
    generalize V2.heap.size = bb at Y9 G9 N89 N79 ⊢
    clear X2
    have N78 : Hid (bn ≠ ba) := fun e => N87.out e.symm
   case' o89 =>
    go_simp
    refine hK.out _ _ (HSS.out _ (X1.out.tr (Kp.alloc_ _ _))) fun hHeld => ?_
    clear hK
    have Y9 : Hid (Bx (V1.alloc (.cells #[.slice none 0 0, .slice none 0 0] 27)) V1.heap.size [.slice none 0 0, .slice none 0 0] 27) := Bx.new rfl
    have X2 : Hid (Kp w1 (V1.alloc (.cells #[.slice none 0 0, .slice none 0 0] 27))) := X1.out.tr (Kp.alloc_ _ _)
    have G9 : Hid (w1.heap.size ≤ V1.heap.size) := X1.out.size
    have N89 : Hid (ba ≠ V1.heap.size) := by have := Y8.out.lt; show _ ≠ _; omega
    replace Y8 := lH (Y8.out.kp (Kp.alloc_ V1 (.cells #[.slice none 0 0, .slice none 0 0] 27)))
    generalize V1.alloc (.cells #[.slice none 0 0, .slice none 0 0] 27) = V2 at X2 Y8 Y9 hHeld ⊢
    generalize V1.heap.size = bb at Y9 G9 N89 ⊢
    clear X1
    refine rD 7 rfl fun K9_ hK => ?_
    go_simp
    refine hK.out _ _ (HSS.out _ (X2.out.tr (Kp.alloc_ _ _))) fun hHeld => ?_
    clear hK
    have Y7 : Hid (Bx (V2.alloc (.cells #[.slice none 0 0] 22)) V2.heap.size [.slice none 0 0] 22) := Bx.new rfl
    have X3 : Hid (Kp w1 (V2.alloc (.cells #[.slice none 0 0] 22))) := X2.out.tr (Kp.alloc_ _ _)
    have G7 : Hid (w1.heap.size ≤ V2.heap.size) := X2.out.size
    have N87 : Hid (ba ≠ V2.heap.size) := by have := Y8.out.lt; show _ ≠ _; omega
    replace Y8 := lH (Y8.out.kp (Kp.alloc_ V2 (.cells #[.slice none 0 0] 22)))
    have N97 : Hid (bb ≠ V2.heap.size) := by have := Y9.out.lt; show _ ≠ _; omega
    replace Y9 := lH (Y9.out.kp (Kp.alloc_ V2 (.cells #[.slice none 0 0] 22)))
    generalize V2.alloc (.cells #[.slice none 0 0] 22) = V3 at X3 Y8 Y9 Y7 hHeld ⊢
    generalize V2.heap.size = bn at Y7 G7 N87 N97 ⊢
    clear X2
    have N78 : Hid (bn ≠ ba) := fun e => N87.out e.symm
    have N79 : Hid (bn ≠ bb) := fun e => N97.out e.symm
  case' o9 =>
   go_simp
   refine hK.out _ _ (HSS.out _ (X0.out.tr (Kp.alloc_ _ _))) fun hHeld => ?_
   clear hK
   have Y9 : Hid (Bx (V0.alloc (.cells #[.slice none 0 0, .slice none 0 0] 27)) V0.heap.size [.slice none 0 0, .slice none 0 0] 27) := Bx.new rfl
   have X1 : Hid (Kp w1 (V0.alloc (.cells #[.slice none 0 0, .slice none 0 0] 27))) := X0.out.tr (Kp.alloc_ _ _)
   have G9 : Hid (w1.heap.size ≤ V0.heap.size) := X0.out.size
   generalize V0.alloc (.cells #[.slice none 0 0, .slice none 0 0] 27) = V1 at X1 Y9 hHeld ⊢
   generalize V0.heap.size = bb at Y9 G9  ⊢
   clear X0
   refine wpAnyH_ready (rs := [7, 8]) (by kernel_rfl) (by simp) ?_
   refine AllReadyH.cons rfl (fun K9_ hK => ?o97) (AllReadyH.cons rfl (fun K9_ hK => ?o98) AllReadyH.nil)
   case' o97 =>
    go_simp
    refine hK.out _ _ (HSS.out _ (X1.out.tr (Kp.alloc_ _ _))) fun hHeld => ?_
    clear hK
    have Y7 : Hid (Bx (V1.alloc (.cells #[.slice none 0 0] 22)) V1.heap.size [.slice none 0 0] 22) := Bx.new rfl
    have X2 : Hid (Kp w1 (V1.alloc (.cells #[.slice none 0 0] 22))) := X1.out.tr (Kp.alloc_ _ _)
    have G7 : Hid (w1.heap.size ≤ V1.heap.size) := X1.out.size
    have N97 : Hid (bb ≠ V1.heap.size) := by have := Y9.out.lt; show _ ≠ _; omega
    replace Y9 := lH (Y9.out.kp (Kp.alloc_ V1 (.cells #[.slice none 0 0] 22)))
    generalize V1.alloc (.cells #[.slice none 0 0] 22) = V2 at X2 Y9 Y7 hHeld ⊢
    generalize V1.heap.size = bn at Y7 G7 N97 ⊢
    clear X1
    refine rD 8 rfl fun K9_ hK => ?_
    go_simp
    refine hK.out _ _ (HSS.out _ (X2.out.tr (Kp.alloc_ _ _))) fun hHeld => ?_
    clear hK
    have Y8 : Hid (Bx (V2.alloc (.cells #[.slice none 0 0, .slice none 0 0] 27)) V2.heap.size [.slice none 0 0, .slice none 0 0] 27) := Bx.new rfl
    have X3 : Hid (Kp w1 (V2.alloc (.cells #[.slice none 0 0, .slice none 0 0] 27))) := X2.out.tr (Kp.alloc_ _ _)
    have G8 : Hid (w1.heap.size ≤ V2.heap.size) := X2.out.size
    have N98 : Hid (bb ≠ V2.heap.size) := by have := Y9.out.lt; show _ ≠ _; omega
    replace Y9 := lH (Y9.out.kp (Kp.alloc_ V2 (.cells #[.slice none 0 0, .slice none 0 0] 27)))
    have N78 : Hid (bn ≠ V2.heap.size) := by have := Y7.out.lt; show _ ≠ _; omega
    replace Y7 := lH (Y7.out.kp (Kp.alloc_ V2 (.cells #[.slice none 0 0, .slice none 0 0] 27)))
    generalize V2.alloc (.cells #[.slice none 0 0, .slice none 0 0] 27) = V3 at X3 Y9 Y7 Y8 hHeld ⊢
    generalize V2.heap.size = ba at Y8 G8 N98 N78 ⊢
    clear X2
    have N79 : Hid (bn ≠ bb) := fun e => N97.out e.symm
    have N89 : Hid (ba ≠ bb) := fun e => N98.out e.symm
   case' o98 =>
    go_simp
    refine hK.out _ _ (HSS.out _ (X1.out.tr (Kp.alloc_ _ _))) fun hHeld => ?_
    clear hK
    have Y8 : Hid (Bx (V1.alloc (.cells #[.slice none 0 0, .slice none 0 0] 27)) V1.heap.size [.slice none 0 0, .slice none 0 0] 27) := Bx.new rfl
    have X2 : Hid (Kp w1 (V1.alloc (.cells #[.slice none 0 0, .slice none 0 0] 27))) := X1.out.tr (Kp.alloc_ _ _)
    have G8 : Hid (w1.heap.size ≤ V1.heap.size) := X1.out.size
    have N98 : Hid (bb ≠ V1.heap.size) := by have := Y9.out.lt; show _ ≠ _; omega
    replace Y9 := lH (Y9.out.kp (Kp.alloc_ V1 (.cells #[.slice none 0 0, .slice none 0 0] 27)))
    generalize V1.alloc (.cells #[.slice none 0 0, .slice none 0 0] 27) = V2 at X2 Y9 Y8 hHeld ⊢
    generalize V1.heap.size = ba at Y8 G8 N98 ⊢
    clear X1
    refine rD 7 rfl fun K9_ hK => ?_
    go_simp
    refine hK.out _ _ (HSS.out _ (X2.out.tr (Kp.alloc_ _ _))) fun hHeld => ?_
    clear hK
    have Y7 : Hid (Bx (V2.alloc (.cells #[.slice none 0 0] 22)) V2.heap.size [.slice none 0 0] 22) := Bx.new rfl
    have X3 : Hid (Kp w1 (V2.alloc (.cells #[.slice none 0 0] 22))) := X2.out.tr (Kp.alloc_ _ _)
    have G7 : Hid (w1.heap.size ≤ V2.heap.size) := X2.out.size
    have N97 : Hid (bb ≠ V2.heap.size) := by have := Y9.out.lt; show _ ≠ _; omega
    replace Y9 := lH (Y9.out.kp (Kp.alloc_ V2 (.cells #[.slice none 0 0] 22)))
    have N87 : Hid (ba ≠ V2.heap.size) := by have := Y8.out.lt; show _ ≠ _; omega
    replace Y8 := lH (Y8.out.kp (Kp.alloc_ V2 (.cells #[.slice none 0 0] 22)))
    generalize V2.alloc (.cells #[.slice none 0 0] 22) = V3 at X3 Y9 Y8 Y7 hHeld ⊢
    generalize V2.heap.size = bn at Y7 G7 N97 N87 ⊢
    clear X2
    have N78 : Hid (bn ≠ ba) := fun e => N87.out e.symm
    have N79 : Hid (bn ≠ bb) := fun e => N97.out e.symm
    have N89 : Hid (ba ≠ bb) := fun e => N98.out e.symm
  all_goals
   have u0 := Y7.out.cell (j := 0) rfl
   have f0 := Y7.out.frz 0
   refine rD 10 rfl fun K9_ hK => ?_
   go_simp
   have X4 : Hid (Kp w1 (V3.setCell ⟨bn, 0, none⟩ (.slice Q m d))) := (X3.out.setCell (p := ⟨bn, 0, none⟩) G7.out (.slice Q m d))
   replace Y7 : Hid (Bx (V3.setCell ⟨bn, 0, none⟩ (.slice Q m d)) bn [.slice Q m d] 22) := (Y7.out.set 0 (.slice Q m d))
   replace Y8 := lH ((Y8.out.other (p := ⟨bn, 0, none⟩) (fun e => N78.out e.symm) (.slice Q m d)))
   replace Y9 := lH ((Y9.out.other (p := ⟨bn, 0, none⟩) (fun e => N79.out e.symm) (.slice Q m d)))
   refine hK.out _ _ (HSS.out _ X4.out) fun hHeld => ?_
   clear hK X3 u0 f0
   generalize (V3.setCell ⟨bn, 0, none⟩ (.slice Q m d)) = V4 at X4 Y7 Y8 Y9 hHeld ⊢
   have u0 := Y8.out.cell (j := 0) rfl
   have f0 := Y8.out.frz 0
   have u1 := Y8.out.cell (j := 1) rfl
   have f1 := Y8.out.frz 1
   refine rD 11 rfl fun K9_ hK => ?_
   go_simp
   have X5 : Hid (Kp w1 ((V4.setCell ⟨ba, 0, none⟩ (.slice A1 n1 a1)).setCell ⟨ba, 1, none⟩ (.slice A2 n2 a2))) := ((X4.out.setCell (p := ⟨ba, 0, none⟩) G8.out (.slice A1 n1 a1)).setCell (p := ⟨ba, 1, none⟩) G8.out (.slice A2 n2 a2))
   replace Y8 : Hid (Bx ((V4.setCell ⟨ba, 0, none⟩ (.slice A1 n1 a1)).setCell ⟨ba, 1, none⟩ (.slice A2 n2 a2)) ba [.slice A1 n1 a1, .slice A2 n2 a2] 27) := ((Y8.out.set 0 (.slice A1 n1 a1)).set 1 (.slice A2 n2 a2))
   replace Y7 := lH (((Y7.out.other (p := ⟨ba, 0, none⟩) N78.out (.slice A1 n1 a1)).other (p := ⟨ba, 1, none⟩) N78.out (.slice A2 n2 a2)))
   replace Y9 := lH (((Y9.out.other (p := ⟨ba, 0, none⟩) (fun e => N89.out e.symm) (.slice A1 n1 a1)).other (p := ⟨ba, 1, none⟩) (fun e => N89.out e.symm) (.slice A2 n2 a2)))
   refine hK.out _ _ (HSS.out _ X5.out) fun hHeld => ?_
   clear hK X4 u0 f0 u1 f1
   generalize ((V4.setCell ⟨ba, 0, none⟩ (.slice A1 n1 a1)).setCell ⟨ba, 1, none⟩ (.slice A2 n2 a2)) = V5 at X5 Y7 Y8 Y9 hHeld ⊢
   have u0 := Y9.out.cell (j := 0) rfl
   have f0 := Y9.out.frz 0
   have u1 := Y9.out.cell (j := 1) rfl
   have f1 := Y9.out.frz 1
   refine rD 12 rfl fun K9_ hK => ?_
   go_simp
   have X6 : Hid (Kp w1 ((V5.setCell ⟨bb, 0, none⟩ (.slice B1 m1 b1)).setCell ⟨bb, 1, none⟩ (.slice B2 m2 b2))) := ((X5.out.setCell (p := ⟨bb, 0, none⟩) G9.out (.slice B1 m1 b1)).setCell (p := ⟨bb, 1, none⟩) G9.out (.slice B2 m2 b2))
   replace Y9 : Hid (Bx ((V5.setCell ⟨bb, 0, none⟩ (.slice B1 m1 b1)).setCell ⟨bb, 1, none⟩ (.slice B2 m2 b2)) bb [.slice B1 m1 b1, .slice B2 m2 b2] 27) := ((Y9.out.set 0 (.slice B1 m1 b1)).set 1 (.slice B2 m2 b2))
   replace Y7 := lH (((Y7.out.other (p := ⟨bb, 0, none⟩) N79.out (.slice B1 m1 b1)).other (p := ⟨bb, 1, none⟩) N79.out (.slice B2 m2 b2)))
   replace Y8 := lH (((Y8.out.other (p := ⟨bb, 0, none⟩) N89.out (.slice B1 m1 b1)).other (p := ⟨bb, 1, none⟩) N89.out (.slice B2 m2 b2)))
   refine hK.out _ _ (HSS.out _ X6.out) fun hHeld => ?_
   clear hK X5 u0 f0 u1 f1
   generalize ((V5.setCell ⟨bb, 0, none⟩ (.slice B1 m1 b1)).setCell ⟨bb, 1, none⟩ (.slice B2 m2 b2)) = V6 at X6 Y7 Y8 Y9 hHeld ⊢
   refine wpAnyH_done (by kernel_rfl) ?_ _
   clear hHeld HSS
   go_wp2
   go_meet
   exact ⟨bn, ba, bb, rfl, rfl, rfl, Y7, Y8, Y9, X6⟩
 case rest =>
 obtain ⟨bn, ba, bb, rfl, rfl, rfl, Y7, Y8, Y9, XC⟩ := hcut
 have hmm := @run_makeMap Tryz.prog
 have h0 := Md.new wc
 go_wp2_with (first
  | (refine wpList_insE (L := (ruW w.heap.size bn ba bb).take 0) rfl _ _ _ rfl 1 _ rfl rfl rfl h0 rfl ?_; intro w101 h1 b1)
  | (refine wpList_insE (L := (ruW w.heap.size bn ba bb).take 1) rfl _ _ _ rfl 2 _ rfl rfl rfl h1 rfl ?_; intro w102 h2 b2)
  | (refine wpList_insE (L := (ruW w.heap.size bn ba bb).take 2) rfl _ _ _ rfl 3 _ rfl rfl rfl h2 rfl ?_; intro w103 h3 b3)
  | (refine wpList_insE (L := (ruW w.heap.size bn ba bb).take 3) rfl _ _ _ rfl 10 _ rfl rfl rfl h3 rfl ?_; intro w104 h4 b4)
  | (refine wpList_insE (L := (ruW w.heap.size bn ba bb).take 4) rfl _ _ _ rfl 11 _ rfl rfl rfl h4 rfl ?_; intro w105 h5 b5)
  | (refine wpList_insE (L := (ruW w.heap.size bn ba bb).take 5) rfl _ _ _ rfl 12 _ rfl rfl rfl h5 rfl ?_; intro w106 h6 b6)
  | (refine wpList_insE (L := (ruW w.heap.size bn ba bb).take 6) rfl _ _ _ rfl 13 _ rfl rfl rfl h6 rfl ?_; intro w107 h7 b7)
  | (refine wpList_insE (L := (ruW w.heap.size bn ba bb).take 7) rfl _ _ _ rfl 20 _ rfl rfl rfl h7 rfl ?_; intro w108 h8 b8)
  | (refine wpList_insE (L := (ruW w.heap.size bn ba bb).take 8) rfl _ _ _ rfl 21 _ rfl rfl rfl h8 rfl ?_; intro w109 h9 b9)
  | (refine wpList_insE (L := (ruW w.heap.size bn ba bb).take 9) rfl _ _ _ rfl 22 _ rfl rfl rfl h9 rfl ?_; intro w110 h10 b10)
  | (refine wpList_insE (L := (ruW w.heap.size bn ba bb).take 10) rfl _ _ _ rfl 23 _ rfl rfl rfl h10 rfl ?_; intro w111 h11 b11)
  | (refine wpList_insE (L := (ruW w.heap.size bn ba bb).take 11) rfl _ _ _ rfl 30 _ rfl rfl rfl h11 rfl ?_; intro w112 h12 b12)
  | (refine wpList_insE (L := (ruW w.heap.size bn ba bb).take 12) rfl _ _ _ rfl 40 _ rfl rfl rfl h12 rfl ?_; intro w113 h13 b13)
  | (refine wpList_insE (L := (ruW w.heap.size bn ba bb).take 13) rfl _ _ _ rfl 41 _ rfl rfl rfl h13 rfl ?_; intro w114 h14 b14)
  | (refine wpList_insE (L := (ruW w.heap.size bn ba bb).take 14) rfl _ _ _ rfl 42 _ rfl rfl rfl h14 rfl ?_; intro w115 h15 b15)
  | (refine wpList_insE (L := (ruW w.heap.size bn ba bb).take 15) rfl _ _ _ rfl 43 _ rfl rfl rfl h15 rfl ?_; intro w116 h16 b16)
  | (refine wpList_insE (L := (ruW w.heap.size bn ba bb).take 16) rfl _ _ _ rfl 50 _ rfl rfl rfl h16 rfl ?_; intro w117 h17 b17)
  | (refine wpList_insE (L := (ruW w.heap.size bn ba bb).take 17) rfl _ _ _ rfl 51 _ rfl rfl rfl h17 rfl ?_; intro w118 h18 b18)
  | (refine wpList_insE (L := (ruW w.heap.size bn ba bb).take 18) rfl _ _ _ rfl 52 _ rfl rfl rfl h18 rfl ?_; intro w119 h19 b19))
 go_ret
 have n0 : wc.heap.size ≤ wc.heap.size := Nat.le_refl _
 have kk := Below.alloc (Below.refl wc.heap.size wc) (Nat.le_refl _) (.map #[] 0)
 have ka := ((((((((((((((((((kk.trans (b1 _ n0)).trans (b2 _ n0)).trans (b3 _ n0)).trans (b4 _ n0)).trans (b5 _ n0)).trans (b6 _ n0)).trans (b7 _ n0)).trans (b8 _ n0)).trans (b9 _ n0)).trans (b10 _ n0)).trans (b11 _ n0)).trans (b12 _ n0)).trans (b13 _ n0)).trans (b14 _ n0)).trans (b15 _ n0)).trans (b16 _ n0)).trans (b17 _ n0)).trans (b18 _ n0)).trans (b19 _ n0)
 have kb : Kp wc w119 := ka
 exact ⟨_, bn, ba, bb, rfl, h19, (K1.out.tr XC.out).tr kb, (BJ.out.kp XC.out).kp kb, Y7.out.kp kb, Y8.out.kp kb, Y9.out.kp kb⟩
open Go.RowKit Go.Proofs.ShM Go.Proofs.GrM Go.Proofs.InM Go.Proofs.ImM Go.Proofs.FixM Go.Proofs.EvM Go.Proofs.YtjkdcegmdfmjpaaGreat.Gz
theorem rule_e {W : World} {bj bn ba bb : Nat} {op : Int} {Q A1 A2 B1 B2 I1 I2 R S : Option Addr} {d a1 a2 b1 b2 i1 i2 rc sc : Nat} {nums : List Int} {a b inp : T} {ps : List T} {s : List Int}
  (H : Ej W bj bn ba bb op Q A1 A2 B1 B2 I1 I2 R S d a1 a2 b1 b2 i1 i2 rc sc nums a b inp ps s) (h0 : 0 ≤ arityV op) (hn : numsB (op, [], nums) = true) :
  ∃ f L, atM (ruE (.pointer (some ⟨bj, 0, none⟩)) (.pointer (some ⟨bn, 0, none⟩)) (.pointer (some ⟨ba, 0, none⟩)) (.pointer (some ⟨bb, 0, none⟩))) op = some (.func (.func f) #[] L) ∧ (∀ args W, (callFunc f args).run Tryz.prog W = .ok (.enter f args) W) ∧ Calls Tryz.prog f L W (RetTo (kindE op nums a b s inp ps) W) := by
 rcases Iz.op_cases h0 with rfl | rfl | rfl | rfl | rfl | rfl | rfl | rfl | rfl | rfl | rfl | rfl | rfl | rfl | rfl | rfl | rfl | rfl | rfl
 ·have e0 : kindE 1 nums a b s inp ps = givenV inp s := by simp [kindE, moreE]
  rw [e0]
  exact ⟨31, #[.pointer (some ⟨bj, 0, none⟩)], rfl, fun args W => MuLone.run_callFunc_enter Tryz.func31 (by kernel_rfl) rfl args W, input_e H⟩
 ·have e0 : kindE 2 nums a b s inp ps = givenV (parT ps (nums.getD 0 0)) s := by simp [kindE, moreE]
  have h1 : 1 ≤ nums.length := by
   obtain ⟨p, s, rfl, _⟩ := nums_2 hn
   simp
  have h2 : 0 ≤ nums.getD 0 0 := by
   obtain ⟨p, s, rfl, hp, _⟩ := nums_2 hn
   simpa using hp
  rw [e0]
  exact ⟨33, #[.pointer (some ⟨bj, 0, none⟩), .pointer (some ⟨bn, 0, none⟩)], rfl, fun args W => MuLone.run_callFunc_enter Tryz.func33 (by kernel_rfl) rfl args W, parm_e H h1 h2⟩
 ·have e0 : kindE 3 nums a b s inp ps = tnE (fullV [] (nums.getD 0 0)) := by simp [kindE, moreE]
  rw [e0]
  exact ⟨35, #[.pointer (some ⟨bn, 0, none⟩)], rfl, fun args W => MuLone.run_callFunc_enter Tryz.func35 (by kernel_rfl) rfl args W, full_e H (by simpa [numsB] using hn)⟩
 ·have e0 : kindE 10 nums a b s inp ps = tnE (twoV 10 a.1 a.2 b.1 b.2) := by simp [kindE, moreE]
  rw [e0]
  exact ⟨29, #[.pointer (some ⟨bj, 0, none⟩), .pointer (some ⟨ba, 0, none⟩), .pointer (some ⟨bb, 0, none⟩)], rfl, fun args W => MuLone.run_callFunc_enter Tryz.func29 (by kernel_rfl) rfl args W, two_e H⟩
 ·have e0 : kindE 11 nums a b s inp ps = tnE (twoV 11 a.1 a.2 b.1 b.2) := by simp [kindE, moreE]
  rw [e0]
  exact ⟨29, #[.pointer (some ⟨bj, 0, none⟩), .pointer (some ⟨ba, 0, none⟩), .pointer (some ⟨bb, 0, none⟩)], rfl, fun args W => MuLone.run_callFunc_enter Tryz.func29 (by kernel_rfl) rfl args W, two_e H⟩
 ·have e0 : kindE 12 nums a b s inp ps = tnE (twoV 12 a.1 a.2 b.1 b.2) := by simp [kindE, moreE]
  rw [e0]
  exact ⟨29, #[.pointer (some ⟨bj, 0, none⟩), .pointer (some ⟨ba, 0, none⟩), .pointer (some ⟨bb, 0, none⟩)], rfl, fun args W => MuLone.run_callFunc_enter Tryz.func29 (by kernel_rfl) rfl args W, two_e H⟩
 ·have e0 : kindE 13 nums a b s inp ps = tnE (twoV 13 a.1 a.2 b.1 b.2) := by simp [kindE, moreE]
  rw [e0]
  exact ⟨29, #[.pointer (some ⟨bj, 0, none⟩), .pointer (some ⟨ba, 0, none⟩), .pointer (some ⟨bb, 0, none⟩)], rfl, fun args W => MuLone.run_callFunc_enter Tryz.func29 (by kernel_rfl) rfl args W, two_e H⟩
 ·have e0 : kindE 20 nums a b s inp ps = tnE (oneV 20 a.1 a.2) := by simp [kindE, moreE]
  rw [e0]
  exact ⟨26, #[.pointer (some ⟨bj, 0, none⟩), .pointer (some ⟨ba, 0, none⟩)], rfl, fun args W => MuLone.run_callFunc_enter Tryz.func26 (by kernel_rfl) rfl args W, one_e H⟩
 ·have e0 : kindE 21 nums a b s inp ps = tnE (oneV 21 a.1 a.2) := by simp [kindE, moreE]
  rw [e0]
  exact ⟨26, #[.pointer (some ⟨bj, 0, none⟩), .pointer (some ⟨ba, 0, none⟩)], rfl, fun args W => MuLone.run_callFunc_enter Tryz.func26 (by kernel_rfl) rfl args W, one_e H⟩
 ·have e0 : kindE 22 nums a b s inp ps = tnE (oneV 22 a.1 a.2) := by simp [kindE, moreE]
  rw [e0]
  exact ⟨26, #[.pointer (some ⟨bj, 0, none⟩), .pointer (some ⟨ba, 0, none⟩)], rfl, fun args W => MuLone.run_callFunc_enter Tryz.func26 (by kernel_rfl) rfl args W, one_e H⟩
 ·have e0 : kindE 23 nums a b s inp ps = tnE (oneV 23 a.1 a.2) := by simp [kindE, moreE]
  rw [e0]
  exact ⟨26, #[.pointer (some ⟨bj, 0, none⟩), .pointer (some ⟨ba, 0, none⟩)], rfl, fun args W => MuLone.run_callFunc_enter Tryz.func26 (by kernel_rfl) rfl args W, one_e H⟩
 ·have e0 : kindE 30 nums a b s inp ps = tnE (matV a.1 a.2 b.1 b.2) := by simp [kindE, moreE]
  rw [e0]
  exact ⟨36, #[.pointer (some ⟨ba, 0, none⟩), .pointer (some ⟨bb, 0, none⟩)], rfl, fun args W => MuLone.run_callFunc_enter Tryz.func36 (by kernel_rfl) rfl args W, mat_e H⟩
 ·have e0 : kindE 40 nums a b s inp ps = tnE (reshapeV a.1 a.2 nums) := by simp [kindE, moreE]
  rw [e0]
  exact ⟨38, #[.pointer (some ⟨ba, 0, none⟩), .pointer (some ⟨bn, 0, none⟩)], rfl, fun args W => MuLone.run_callFunc_enter Tryz.func38 (by kernel_rfl) rfl args W, form_e H⟩
 ·have e0 : kindE 41 nums a b s inp ps = tnE (turnV a.1 a.2) := by simp [kindE, moreE]
  rw [e0]
  exact ⟨40, #[.pointer (some ⟨ba, 0, none⟩)], rfl, fun args W => MuLone.run_callFunc_enter Tryz.func40 (by kernel_rfl) rfl args W, turn_e H⟩
 ·have e0 : kindE 42 nums a b s inp ps = tnE (sliceV a.1 a.2 (nums.getD 0 0) (nums.getD 1 0) (nums.getD 2 0)) := by simp [kindE, moreE]
  rw [e0]
  exact ⟨42, #[.pointer (some ⟨ba, 0, none⟩), .pointer (some ⟨bn, 0, none⟩)], rfl, fun args W => MuLone.run_callFunc_enter Tryz.func42 (by kernel_rfl) rfl args W, part_e H (by simpa [numsB] using hn)⟩
 ·have e0 : kindE 43 nums a b s inp ps = tnE (glueV a.1 a.2 b.1 b.2 (nums.getD 0 0)) := by simp [kindE, moreE]
  rw [e0]
  exact ⟨44, #[.pointer (some ⟨ba, 0, none⟩), .pointer (some ⟨bb, 0, none⟩), .pointer (some ⟨bn, 0, none⟩)], rfl, fun args W => MuLone.run_callFunc_enter Tryz.func44 (by kernel_rfl) rfl args W, glue_e H (by simpa [numsB] using hn)⟩
 ·have e0 : kindE 50 nums a b s inp ps = tnE (sumV a.1 a.2 (nums.getD 0 0)) := by simp [kindE, moreE]
  rw [e0]
  exact ⟨46, #[.pointer (some ⟨ba, 0, none⟩), .pointer (some ⟨bn, 0, none⟩)], rfl, fun args W => MuLone.run_callFunc_enter Tryz.func46 (by kernel_rfl) rfl args W, sum_e H (by simpa [numsB] using hn)⟩
 ·have e0 : kindE 51 nums a b s inp ps = tnE (meanV a.1 a.2 (nums.getD 0 0)) := by simp [kindE, moreE]
  rw [e0]
  exact ⟨48, #[.pointer (some ⟨ba, 0, none⟩), .pointer (some ⟨bn, 0, none⟩)], rfl, fun args W => MuLone.run_callFunc_enter Tryz.func48 (by kernel_rfl) rfl args W, mean_e H (by simpa [numsB] using hn)⟩
 ·have e0 : kindE 52 nums a b s inp ps = tnE (maxV a.1 a.2 (nums.getD 0 0)) := by simp [kindE, moreE]
  rw [e0]
  exact ⟨50, #[.pointer (some ⟨ba, 0, none⟩), .pointer (some ⟨bn, 0, none⟩)], rfl, fun args W => MuLone.run_callFunc_enter Tryz.func50 (by kernel_rfl) rfl args W, max_e H (by simpa [numsB] using hn)⟩
end Go.Proofs.YtjkdcegmdfmjpaaGreat.Ez
