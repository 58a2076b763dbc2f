/- The landed eval: what is given, and the rules of what is given, of parameters and of numbers. -/
import Derived.Test.YtdbncanedokinaaGreatEvZb
set_option maxRecDepth 100000
namespace Go.Proofs.YtdbncanedokinaaGreat.Ez
open Go.RowKit Go.Proofs.ShM Go.Proofs.GrM Go.Proofs.InM Go.Proofs.ImM Go.Proofs.FixM Go.Proofs.EvM
set_option linter.unusedVariables false
set_option linter.unusedSimpArgs false
set_option maxHeartbeats 8000000

/-- A tensor that is told. -/
def RetTv (t : T) (w : World) (e : Ending) (w' : World) : Prop :=
  ∃ A c B d, e = .returned (.agg #[.slice A t.1.length c, .slice B t.2.length d]) ∧ Hid (TRc w' A c B d t) ∧ Hid (Kp w w')
theorem param_e (R : Option Addr) (k rc : Nat) (ps : List T) (p : Int) (w : World) (h : RdT w R ps) (hk : k = ps.length) (hp : 0 ≤ p) :
    Calls Tryz.prog 42 #[.slice R k rc, .int .i64 p] w (RetTv (parT ps p) w) := by
  obtain ⟨q, rfl⟩ : ∃ q : Nat, p = (q : Int) := ⟨p.toNat, by omega⟩
  have hl := h.len
  subst hk
  by_cases hq : q < ps.length
  · obtain ⟨ad, t, P, c, Q, d, rfl, hb, ht, c0, c1, r, x1, x2, b1, b2⟩ := h.at_c hq
    have hv : parT ps (q : Int) = t := by
      unfold parT
      rw [if_pos hp, Int.toNat_natCast, List.getD_eq_getElem?_getD, ht]; rfl
    rw [hv]
    have HT : Hid (TRc (w.alloc (.cells #[.slice P t.1.length c, .slice Q t.2.length d] 25)) P c Q d t) := ⟨r.alloc_ _, b1, b2⟩
    have z0 : (w.alloc (.cells #[.slice none 0 0, .slice none 0 0] 25)).cell? (ad.add (q * 2)) = some (.slice P t.1.length c) := Iz.kp_cell c0 (Kp.alloc_ _ _)
    have z1 : (w.alloc (.cells #[.slice none 0 0, .slice none 0 0] 25)).cell? ⟨(ad.add (q * 2)).block, (ad.add (q * 2)).off + 1, none⟩ = some (.slice Q t.2.length d) := Iz.kp_cell c1 (Kp.alloc_ _ _)
    have hq1 : ¬ (ps.length : Int) ≤ (q : Int) := by omega
    have hq2 : (q : Int) < (ps.length : Int) := by omega
    clear hv h r x1 x2 b1 b2 ht hp c0 c1
    go_enter Tryz.func42, Tryz.ntmps42
    go_wp2
    refine bodyPost_ret (v := .agg #[.slice P t.1.length c, .slice Q t.2.length d]) (by simp [results, Tryz.results42, go_sem]; try rfl) rfl ?_
    exact ⟨P, c, Q, d, rfl, HT.out, Kp.alloc_ _ _⟩
  · have hv : parT ps (q : Int) = eT := by
      unfold parT
      rw [if_pos hp, Int.toNat_natCast, List.getD_eq_getElem?_getD, List.getElem?_eq_none (by omega)]; rfl
    rw [hv]
    have hq1 : (ps.length : Int) ≤ (q : Int) := by omega
    clear hv h hp
    go_enter Tryz.func42, Tryz.ntmps42
    go_wp2
    refine bodyPost_ret (v := .agg #[.slice none 0 0, .slice none 0 0]) (by simp [results, Tryz.results42, go_sem]; try rfl) rfl ?_
    exact ⟨none, 0, none, 0, rfl, ⟨TR.nil_, by simp [eT], by simp [eT]⟩, Kp.alloc_ _ _⟩

theorem er_given (t : T) (s : List Int) : (givenV t s).2 ≠ 0 → (givenV t s).1.1 = [] ∧ (givenV t s).1.2 = [] := by
  unfold givenV
  split
  · exact fun h => absurd rfl h
  · exact fun _ => ⟨rfl, rfl⟩
theorem given_e (P Q A : Option Addr) (n c m d k e : Nat) (t : T) (s : List Int) (w : World) (h : TR w P t.1 Q t.2) (g : Rd w A s) (hn : n = t.1.length) (hm : m = t.2.length) (hk : k = s.length) :
    Calls Tryz.prog 40 #[.agg #[.slice P n c, .slice Q m d], .slice A k e] w (RetTo (givenV t s) w) := by
  have ln := h.s.len
  have lm := h.d.len
  rw [← hn] at ln
  rw [← hm] at lm
  have K0 : Hid (Kp w ((w.alloc (.cells #[.slice P n c, .slice Q m d] 25)).alloc (.cells #[.slice none 0 0, .slice none 0 0, .int .i64 0] 65))) := (Kp.alloc_ _ _).tr (Kp.alloc_ _ _)
  have B0 : Hid (Bk ((w.alloc (.cells #[.slice P n c, .slice Q m d] 25)).alloc (.cells #[.slice none 0 0, .slice none 0 0, .int .i64 0] 65)) w.heap.size P n c Q m d) := (Bk.new rfl).alloc_ _
  have F0 : Hid (Bx ((w.alloc (.cells #[.slice P n c, .slice Q m d] 25)).alloc (.cells #[.slice none 0 0, .slice none 0 0, .int .i64 0] 65)) (w.heap.size + 1) [.slice none 0 0, .slice none 0 0, .int .i64 0] 65) := Bx.new (by rw [World.size_alloc])
  have HCK : Hid (∀ V, Kp w V → Calls Tryz.prog 32 #[.agg #[.slice P n c, .slice Q m d]] V fun e w' => e = .returned (.bool (tokT t)) ∧ Kp V w') := fun V kV => by
    rw [hn, hm]
    exact tcheck_any P Q c d t.1 t.2 V (h.s.kp kV) (h.d.kp kV)
  have HEQ : Hid (∀ V, Kp w V → Calls Tryz.prog 89 #[.slice P n c, .slice A k e] V fun e w' => e = .returned (.bool (t.1 == s)) ∧ Kp V w') := fun V kV => by
    rw [hn, hk]
    exact (equal_any P A c e t.1 s V (h.s.kp kV) (g.kp kV)).mono fun e0 w' hh => ⟨hh.1, by obtain ⟨q, rfl⟩ := hh.2; exact Kp.drewN_ _ q⟩
  obtain ⟨W0, hW0⟩ : ∃ W0, W0 = ((w.alloc (.cells #[.slice P n c, .slice Q m d] 25)).alloc (.cells #[.slice none 0 0, .slice none 0 0, .int .i64 0] 65)) := ⟨_, rfl⟩
  rw [← hW0] at F0 K0 B0
  have HW := Lib.hid hW0
  cases hc : tokT t with
  | false =>
    have hr : givenV t s = (eT, 130) := by unfold givenV; rw [if_neg (by simp [hc])]
    rw [hr]
    rw [hc] at HCK
    clear hr hc h g hn hm hk hW0
    go_enter Tryz.func40, Tryz.ntmps40
    go_wp2_with fail
    rw [← HW.out]
    refine (HCK.out _ K0.out).mono ?_; rintro e0 w1 ⟨rfl, k1⟩
    have K1 := Lib.hid (K0.out.tr k1)
    have F1 := Lib.hid (F0.out.kp k1)
    clear k1
    have o0 := F1.out.cell (j := 0) rfl
    have o1 := F1.out.cell (j := 1) rfl
    have o2 := F1.out.cell (j := 2) rfl
    have f0 := F1.out.frz 0
    have f1 := F1.out.frz 1
    have f2 := F1.out.frz 2
    go_wp2
    refine bodyPost_ret (v := .agg #[.slice none 0 0, .slice none 0 0, .int .i64 130]) (by simp [results, Tryz.results40, go_sem, o0, o1, o2]; try rfl) rfl ?_
    exact RetTo.box (slice_ne _ _ _) (slice_ne _ _ _) rfl rfl rfl (fun _ => ⟨rfl, rfl⟩) (Nat.le_succ _) F1.out (Sl.nil_ _) (Sl.nil_ _) K1.out
  | true =>
    rw [hc] at HCK
    cases he : (t.1 == s) with
    | false =>
      have hr : givenV t s = (eT, 130) := by unfold givenV; rw [if_neg (by intro hh; simp [hh.2] at he)]
      rw [hr]
      rw [he] at HEQ
      have x0 := B0.out.c0
      clear hr hc he h g hn hm hk hW0
      go_enter Tryz.func40, Tryz.ntmps40
      go_wp2_with fail
      rw [← HW.out]
      refine (HCK.out _ K0.out).mono ?_; rintro e0 w1 ⟨rfl, k1⟩
      have K1 := Lib.hid (K0.out.tr k1)
      have F1 := Lib.hid (F0.out.kp k1)
      have y0 := (B0.out.kp k1).c0
      clear k1 x0
      go_wp2_with fail
      refine (HEQ.out _ K1.out).mono ?_; rintro e0 w2 ⟨rfl, k2⟩
      have K2 := Lib.hid (K1.out.tr k2)
      have F2 := Lib.hid (F1.out.kp k2)
      clear k2 y0
      have o0 := F2.out.cell (j := 0) rfl
      have o1 := F2.out.cell (j := 1) rfl
      have o2 := F2.out.cell (j := 2) rfl
      have f0 := F2.out.frz 0
      have f1 := F2.out.frz 1
      have f2 := F2.out.frz 2
      go_wp2
      refine bodyPost_ret (v := .agg #[.slice none 0 0, .slice none 0 0, .int .i64 130]) (by simp [results, Tryz.results40, go_sem, o0, o1, o2]; try rfl) rfl ?_
      exact RetTo.box (slice_ne _ _ _) (slice_ne _ _ _) rfl rfl rfl (fun _ => ⟨rfl, rfl⟩) (Nat.le_succ _) F2.out (Sl.nil_ _) (Sl.nil_ _) K2.out
    | true =>
      have hr : givenV t s = (t, 0) := by unfold givenV; rw [if_pos ⟨hc, by simpa using he⟩]
      rw [hr]
      rw [he] at HEQ
      have hfew := Go.Proofs.EvM.tok_few hc
      have H1 : Hid (∀ V, Kp w V → Calls Tryz.prog 29 #[.slice P n c] V (RetW t.1 V)) := fun V kV => by
        rw [hn]; exact Iz.clone_i P c t.1 V (h.s.kp kV) (by omega)
      have H2 : Hid (∀ V, Kp w V → Calls Tryz.prog 29 #[.slice Q m d] V (RetW t.2 V)) := fun V kV => by
        rw [hm]; exact Iz.clone_i Q d t.2 V (h.d.kp kV) (by omega)
      have x0 := B0.out.c0
      clear hr hc he h g hn hm hk hW0 hfew
      go_enter Tryz.func40, Tryz.ntmps40
      go_wp2_with fail
      rw [← HW.out]
      refine (HCK.out _ K0.out).mono ?_; rintro e0 w1 ⟨rfl, k1⟩
      have K1 := Lib.hid (K0.out.tr k1)
      have F1 := Lib.hid (F0.out.kp k1)
      have B1 := Lib.hid (B0.out.kp k1)
      have y0 := B1.out.c0
      clear k1 x0
      go_wp2_with fail
      refine (HEQ.out _ K1.out).mono ?_; rintro e0 w2 ⟨rfl, k2⟩
      have K2 := Lib.hid (K1.out.tr k2)
      have F2 := Lib.hid (F1.out.kp k2)
      have B2 := Lib.hid (B1.out.kp k2)
      have HSS : Hid (∀ V, Kp w2 V → V.cell? ⟨w.heap.size, 0, none⟩ = some (.slice P n c) ∧ V.cell? ⟨w.heap.size, 1, none⟩ = some (.slice Q m d)) := fun V kV => ⟨(B2.out.kp kV).c0, (B2.out.kp kV).c1⟩
      have hS0 := HSS.out _ (Kp.refl _)
      clear k2 y0
      go_wp2_with fail
      refine wp_region_held_drew (S := fun V => V.cell? ⟨w.heap.size, 0, none⟩ = some (.slice P n c) ∧ V.cell? ⟨w.heap.size, 1, none⟩ = some (.slice Q m d)) (by kernel_rfl) (HSS.out _ (Below.drew (Kp.refl _))) (fun hHeld => ?_)
      have X2 : Hid (Kp w2 w2.drew) := Below.drew (Kp.refl _)
      generalize w2.drew = V0 at X2 hHeld ⊢
      try simp only [Act.put, List.setIfInBounds_toArray, List.set_cons_zero, List.set_cons_succ]
      refine wpAnyH_take (i := 0) (v := .pointer (some ⟨w.heap.size, 0, none⟩)) rfl (by kernel_rfl) (by kernel_rfl) (by kernel_rfl) (fun _ _ _ h => h) (Or.inl ⟨by kernel_rfl, fun V hSV => ?_⟩) hHeld ?_
      · (try dsimp only at hSV); go_simp
      try simp only [Act.put, List.setIfInBounds_toArray, List.set_cons_zero, List.set_cons_succ]
      refine wpAnyH_take (i := 1) (v := .slice P n c) rfl (by kernel_rfl) (by kernel_rfl) (by kernel_rfl) (fun _ _ _ h => h) (Or.inl ⟨by kernel_rfl, fun V hSV => ?_⟩) hHeld ?_
      · (try dsimp only at hSV); go_simp
      try simp only [Act.put, List.setIfInBounds_toArray, List.set_cons_zero, List.set_cons_succ]
      refine wpAnyH_take (i := 3) (v := .pointer (some ⟨w.heap.size, 1, none⟩)) rfl (by kernel_rfl) (by kernel_rfl) (by kernel_rfl) (fun _ _ _ h => h) (Or.inl ⟨by kernel_rfl, fun V hSV => ?_⟩) hHeld ?_
      · (try dsimp only at hSV); go_simp
      try simp only [Act.put, List.setIfInBounds_toArray, List.set_cons_zero, List.set_cons_succ]
      refine wpAnyH_take (i := 4) (v := .slice Q m d) rfl (by kernel_rfl) (by kernel_rfl) (by kernel_rfl) (fun _ _ _ h => h) (Or.inl ⟨by kernel_rfl, fun V hSV => ?_⟩) hHeld ?_
      · (try dsimp only at hSV); go_simp
      try simp only [Act.put, List.setIfInBounds_toArray, List.set_cons_zero, List.set_cons_succ]
      refine wpAnyH_ready (rs := [2]) (by kernel_rfl) (by simp) ?_
      refine AllReadyH.cons rfl (fun K9_ hK => ?_) AllReadyH.nil
      · go_simp
        refine (H1.out _ (K2.out.tr X2.out)).mono ?_; rintro e3 w3 ⟨A3, c3, rfl, o3, k3⟩
        dsimp only
        have X3 : Hid (Kp w2 w3) := X2.out.tr k3
        have L3 := Lib.hid o3.sl
        have hS3 := HSS.out _ X3.out
        clear k3 o3
        refine hK.out _ _ ?_ (fun hHeld => ?_)
        · exact hS3
        clear hK
        try simp only [Act.put, List.setIfInBounds_toArray, List.set_cons_zero, List.set_cons_succ]
        refine wpAnyH_ready (rs := [5]) (by kernel_rfl) (by simp) ?_
        refine AllReadyH.cons rfl (fun K9_ hK => ?_) AllReadyH.nil
        go_simp
        refine (H2.out _ (K2.out.tr X3.out)).mono ?_; rintro e4 w4 ⟨B3, d3, rfl, o4, k4⟩
        dsimp only
        have X4 : Hid (Kp w2 w4) := X3.out.tr k4
        have L4 := Lib.hid o4.sl
        have M4 := Lib.hid (L3.out.kp k4)
        have hS4 := HSS.out _ X4.out
        clear k4 o4
        refine hK.out _ _ ?_ (fun hHeld => ?_)
        · exact hS4
        clear hK
        try simp only [Act.put, List.setIfInBounds_toArray, List.set_cons_zero, List.set_cons_succ]
        refine wpAnyH_take (i := 6) (v := .agg #[.slice A3 t.1.length c3, .slice B3 t.2.length d3]) rfl (by kernel_rfl) (by kernel_rfl) (by kernel_rfl) (fun _ _ _ h => h) (Or.inl ⟨by kernel_rfl, fun V hSV => ?_⟩) hHeld ?_
        · (try dsimp only at hSV); go_simp
        try simp only [Act.put, List.setIfInBounds_toArray, List.set_cons_zero, List.set_cons_succ]
        refine wpAnyH_ready (rs := [7]) (by kernel_rfl) (by simp) ?_
        refine AllReadyH.cons rfl (fun K9_ hK => ?_) AllReadyH.nil
        go_simp
        refine (tell_t _ _ _ _ _ _ _ _).mono ?_; rintro e5 w5 ⟨rfl, k5⟩
        dsimp only
        have X5 : Hid (Kp w2 w5) := X4.out.tr k5
        have L5 := Lib.hid (L4.out.kp k5)
        have M5 := Lib.hid (M4.out.kp k5)
        have F5 := Lib.hid (F2.out.kp X5.out)
        have K5 := Lib.hid (K2.out.tr X5.out)
        have hS5 := HSS.out _ X5.out
        clear k5
        refine hK.out _ _ ?_ (fun hHeld => ?_)
        · exact hS5
        clear hK
        try simp only [Act.put, List.setIfInBounds_toArray, List.set_cons_zero, List.set_cons_succ]
        have o0 := F5.out.cell (j := 0) rfl
        have o1 := F5.out.cell (j := 1) rfl
        have o2 := F5.out.cell (j := 2) rfl
        have f0 := F5.out.frz 0
        have f1 := F5.out.frz 1
        have f2 := F5.out.frz 2
        have hS6 : (((w5.setCell ⟨w.heap.size + 1, 0, none⟩ (.slice A3 t.1.length c3)).setCell ⟨w.heap.size + 1, 1, none⟩ (.slice B3 t.2.length d3)).setCell ⟨w.heap.size + 1, 2, none⟩ (.int .i64 0)).cell? ⟨w.heap.size, 0, none⟩ = some (.slice P n c) ∧ (((w5.setCell ⟨w.heap.size + 1, 0, none⟩ (.slice A3 t.1.length c3)).setCell ⟨w.heap.size + 1, 1, none⟩ (.slice B3 t.2.length d3)).setCell ⟨w.heap.size + 1, 2, none⟩ (.int .i64 0)).cell? ⟨w.heap.size, 1, none⟩ = some (.slice Q m d) := by
          obtain ⟨u0, u1⟩ := hS5
          constructor <;> simp [go_sem, u0, u1]
        refine wpAnyH_ready (rs := [8]) (by kernel_rfl) (by simp) ?_
        refine AllReadyH.cons rfl (fun K9_ hK => ?_) AllReadyH.nil
        go_simp
        refine hK.out _ _ ?_ (fun hHeld => ?_)
        · exact hS6
        clear hK
        try simp only [Act.put, List.setIfInBounds_toArray, List.set_cons_zero, List.set_cons_succ]
        refine wpAnyH_done (by kernel_rfl) ?_ _
        clear hHeld hS0 hS3 hS4 hS5 hS6 HSS
        go_wp2
        refine bodyPost_ret (v := .agg #[.slice A3 t.1.length c3, .slice B3 t.2.length d3, .int .i64 0]) (by simp [results, Tryz.results40, go_sem, o0, o1, o2]; try rfl) rfl ?_
        exact RetTo.box (slice_ne _ _ _) (slice_ne _ _ _) rfl rfl rfl (fun hh => absurd rfl hh) (Nat.le_succ _) F5.out M5.out L5.out K5.out

section
variable {W : World} {bj bn ba bb : Nat} {op : Int} {Q A1 A2 B1 B2 I1 I2 R S : Option Addr} {d a1 a2 b1 b2 i1 i2 rc sc : Nat} {nums : List Int} {a b inp : T} {ps : List T} {s : List Int}
theorem input_e (H : Ej W bj bn ba bb op Q A1 A2 B1 B2 I1 I2 R S d a1 a2 b1 b2 i1 i2 rc sc nums a b inp ps s) : Calls Tryz.prog 39 #[.pointer (some ⟨bj, 0, none⟩)] W (RetTo (givenV inp s) W) := by
  have x7 := H.j7
  have x8 := H.j8
  have x10 := H.j10
  have lbj : bj < W.heap.size := Iz.lt_cell H.j7
  have HC : Hid (∀ V, Kp W V → Calls Tryz.prog 40 #[.agg #[.slice I1 inp.1.length i1, .slice I2 inp.2.length i2], .slice S s.length sc] V (RetTo (givenV inp s) V)) := fun V kV => given_e I1 I2 S _ i1 _ i2 _ sc inp s V (H.ri.r.kp kV) (H.rs.rd.kp kV) rfl rfl rfl
  have HE := Lib.hid (er_given inp s)
  obtain ⟨Q3, hQ⟩ : ∃ Q3, Q3 = givenV inp s := ⟨_, rfl⟩
  rw [← hQ] at HC HE ⊢
  have F0 : Hid (Bx (W.alloc (.cells #[.slice none 0 0, .slice none 0 0, .int .i64 0] 65)) W.heap.size [.slice none 0 0, .slice none 0 0, .int .i64 0] 65) := Bx.new rfl
  have K0 : Hid (Kp W (W.alloc (.cells #[.slice none 0 0, .slice none 0 0, .int .i64 0] 65))) := Kp.alloc_ _ _
  clear H hQ
  go_enter Tryz.func39, Tryz.ntmps39
  go_wp2_with fail
  refine (HC.out _ K0.out).mono ?_; rintro e1 w2 ⟨A3, c3, B3, d3, rfl, s3, t3, k1⟩
  have K2 := Lib.hid (K0.out.tr k1)
  have F2 := Lib.hid (F0.out.kp k1)
  have S2 := Lib.hid s3; have T2 := Lib.hid t3
  clear k1 s3 t3 x7 x8 x10
  have o0 := F2.out.cell (j := 0) rfl
  have o1 := F2.out.cell (j := 1) rfl
  have o2 := F2.out.cell (j := 2) rfl
  have f0 := F2.out.frz 0
  have f1 := F2.out.frz 1
  have f2 := F2.out.frz 2
  go_wp2
  refine bodyPost_ret (v := .agg #[.slice A3 Q3.1.1.length c3, .slice B3 Q3.1.2.length d3, .int .i64 Q3.2]) (by simp [results, Tryz.results39, go_sem, o0, o1, o2]; try rfl) rfl ?_
  exact RetTo.box (slice_ne _ _ _) (slice_ne _ _ _) rfl rfl rfl HE.out (Nat.le_refl _) F2.out S2.out T2.out K2.out
theorem full_e (H : Ej W bj bn ba bb op Q A1 A2 B1 B2 I1 I2 R S d a1 a2 b1 b2 i1 i2 rc sc nums a b inp ps s) (h1 : nums.length = 1) : Calls Tryz.prog 43 #[.pointer (some ⟨bn, 0, none⟩)] W (RetTo (tnE (fullV [] (nums.getD 0 0))) W) := by
  obtain ⟨x, rfl⟩ := Iz.one_list h1
  obtain ⟨aq, rfl, hlt, hc⟩ := H.rn.2 (by simp)
  have y0 : W.cell? aq = some (.int .i64 x) := by simpa [Addr.add] using hc 0 x rfl
  have xn0 : W.cell? ⟨bn, 0, none⟩ = some (.slice (some aq) 1 d) := H.n0
  have lbn : bn < W.heap.size := Iz.lt_cell H.n0
  obtain ⟨Q4, hQ⟩ : ∃ Q3, Q3 = fullV [] x := ⟨_, rfl⟩
  have HC : Hid (∀ V, Kp W V → Calls Tryz.prog 44 #[.slice none 0 0, .int .i64 x] V (RetT Q4 V)) := fun V kV => by rw [hQ]; exact full_any none 0 [] x V (Rd.nil _ _)
  have HE : Hid (Q4.2.2 ≠ 0 → Q4.1 = [] ∧ Q4.2.1 = []) := by show _; rw [hQ]; exact er_full [] x
  have HG : Hid (RetTo (tnE (fullV [] (([x] : List Int).getD 0 0))) W = RetTo (tnE Q4) W) := by rw [hQ]; rfl
  rw [HG.out]
  have F0 : Hid (Bx (W.alloc (.cells #[.slice none 0 0, .slice none 0 0, .int .i64 0] 65)) W.heap.size [.slice none 0 0, .slice none 0 0, .int .i64 0] 65) := Bx.new rfl
  have K0 : Hid (Kp W (W.alloc (.cells #[.slice none 0 0, .slice none 0 0, .int .i64 0] 65))) := Kp.alloc_ _ _
  clear H hQ hc h1 HG
  go_enter Tryz.func43, Tryz.ntmps43
  go_wp2_with fail
  refine (HC.out _ K0.out).mono ?_; rintro e1 w1 ⟨A3, c3, B3, d3, rfl, s3, t3, k1⟩
  have K1 := Lib.hid (K0.out.tr k1)
  have F1 := Lib.hid (F0.out.kp k1)
  have S1 := Lib.hid s3; have T1 := Lib.hid t3
  clear k1 s3 t3 y0 xn0
  dsimp only
  go_wp2_with fail
  refine (tell_t _ _ _ _ _ _ _ _).mono ?_; rintro e2 w2 ⟨rfl, k2⟩
  have K2 := Lib.hid (K1.out.tr k2)
  have F2 := Lib.hid (F1.out.kp k2)
  have S2 := Lib.hid (S1.out.kp k2); have T2 := Lib.hid (T1.out.kp k2)
  clear k2
  have o0 := F2.out.cell (j := 0) rfl
  have o1 := F2.out.cell (j := 1) rfl
  have o2 := F2.out.cell (j := 2) rfl
  have f0 := F2.out.frz 0
  have f1 := F2.out.frz 1
  have f2 := F2.out.frz 2
  go_wp2
  refine bodyPost_ret (v := .agg #[.slice A3 Q4.1.length c3, .slice B3 Q4.2.1.length d3, .int .i64 Q4.2.2]) (by simp [results, Tryz.results43, go_sem, o0, o1, o2]; try rfl) rfl ?_
  exact RetTo.box (slice_ne _ _ _) (slice_ne _ _ _) rfl rfl rfl HE.out (Nat.le_refl _) F2.out S2.out T2.out K2.out
theorem parm_e (H : Ej W bj bn ba bb op Q A1 A2 B1 B2 I1 I2 R S d a1 a2 b1 b2 i1 i2 rc sc nums a b inp ps s) (h1 : 1 ≤ nums.length) (hp : 0 ≤ nums.getD 0 0) : Calls Tryz.prog 41 #[.pointer (some ⟨bj, 0, none⟩), .pointer (some ⟨bn, 0, none⟩)] W (RetTo (givenV (parT ps (nums.getD 0 0)) s) W) := by
  obtain ⟨p, hp0⟩ : ∃ p, p = nums.getD 0 0 := ⟨_, rfl⟩
  have hq : nums[0]? = some p := by rw [hp0, List.getD_eq_getElem?_getD, List.getElem?_eq_getElem (by omega)]; rfl
  rw [← hp0] at hp ⊢
  obtain ⟨aq, rfl, hlt, hc⟩ := H.rn.2 (by omega)
  have y0 : W.cell? aq = some (.int .i64 p) := by simpa [Addr.add] using hc 0 p hq
  obtain ⟨nl, hnl⟩ : ∃ nl, nl = nums.length := ⟨_, rfl⟩
  have hpos : (0 : Int) < (nl : Int) := by omega
  have hpos2 : ¬ nl = 0 := by omega
  have xn0 : W.cell? ⟨bn, 0, none⟩ = some (.slice (some aq) nl d) := by rw [hnl]; exact H.n0
  have x9 := H.j9
  have x10 := H.j10
  obtain ⟨u, hu⟩ : ∃ u, u = parT ps p := ⟨_, rfl⟩
  have HP : Hid (∀ V, Kp W V → Calls Tryz.prog 42 #[.slice R ps.length rc, .int .i64 p] V (RetTv u V)) := fun V kV => by rw [hu]; exact param_e R _ rc ps p V (H.rp.kp kV) rfl hp
  have HC : Hid (∀ V P c Q d, Kp W V → TRc V P c Q d u → Calls Tryz.prog 40 #[.agg #[.slice P u.1.length c, .slice Q u.2.length d], .slice S s.length sc] V (RetTo (givenV u s) V)) := fun V P c Q d kV hT => given_e P Q S _ c _ d _ sc u s V hT.r (H.rs.rd.kp kV) rfl rfl rfl
  have HE := Lib.hid (er_given u s)
  rw [← hu]
  obtain ⟨Q3, hQ⟩ : ∃ Q3, Q3 = givenV u s := ⟨_, rfl⟩
  rw [← hQ] at HC HE ⊢
  have HSS : Hid (∀ V, Kp W V → V.cell? ⟨bj, 9, none⟩ = some (.slice R ps.length rc) ∧ V.cell? ⟨bj, 10, none⟩ = some (.slice S s.length sc) ∧ V.cell? ⟨bn, 0, none⟩ = some (.slice (some aq) nl d) ∧ V.cell? aq = some (.int .i64 p)) := fun V kV => ⟨Iz.kp_cell x9 kV, Iz.kp_cell x10 kV, Iz.kp_cell xn0 kV, Iz.kp_cell y0 kV⟩
  have F0 : Hid (Bx (W.alloc (.cells #[.slice none 0 0, .slice none 0 0, .int .i64 0] 65)) W.heap.size [.slice none 0 0, .slice none 0 0, .int .i64 0] 65) := Bx.new rfl
  have K0 : Hid (Kp W (W.alloc (.cells #[.slice none 0 0, .slice none 0 0, .int .i64 0] 65))) := Kp.alloc_ _ _
  clear H hQ hc h1 hlt hq hp0 hu hp hnl x9 x10 xn0 y0
  obtain ⟨W0, hW0⟩ : ∃ W0, W0 = (W.alloc (.cells #[.slice none 0 0, .slice none 0 0, .int .i64 0] 65)) := ⟨_, rfl⟩
  rw [← hW0] at F0 K0
  have HW := Lib.hid hW0
  have K4 : Hid (Kp W0 W0.drew) := Below.drew (Kp.refl W0)
  have hS0 := HSS.out _ K0.out
  clear hW0
  go_enter Tryz.func41, Tryz.ntmps41
  go_wp2_with fail
  rw [← HW.out]
  refine wp_region_held_drew (S := fun V => V.cell? ⟨bj, 9, none⟩ = some (.slice R ps.length rc) ∧ V.cell? ⟨bj, 10, none⟩ = some (.slice S s.length sc) ∧ V.cell? ⟨bn, 0, none⟩ = some (.slice (some aq) nl d) ∧ V.cell? aq = some (.int .i64 p)) (by kernel_rfl) (HSS.out _ (Below.drew K0.out)) (fun hHeld => ?_)
  have hdr : Hid (Kp W W0.drew) := Below.drew K0.out
  have FB := Lib.hid (F0.out.kp K4.out)
  generalize W0.drew = V0 at hdr hHeld FB ⊢
  try simp only [Act.put, List.setIfInBounds_toArray, List.set_cons_zero, List.set_cons_succ]
  refine wpAnyH_take (i := 0) (v := .pointer (some ⟨bj, 9, none⟩)) rfl (by kernel_rfl) (by kernel_rfl) (by kernel_rfl) (fun _ _ _ h => h) (Or.inl ⟨by kernel_rfl, fun V hSV => ?_⟩) hHeld ?_
  · (try dsimp only at hSV); go_simp
  try simp only [Act.put, List.setIfInBounds_toArray, List.set_cons_zero, List.set_cons_succ]
  refine wpAnyH_take (i := 1) (v := .slice R ps.length rc) rfl (by kernel_rfl) (by kernel_rfl) (by kernel_rfl) (fun _ _ _ h => h) (Or.inl ⟨by kernel_rfl, fun V hSV => ?_⟩) hHeld ?_
  · (try dsimp only at hSV); go_simp
  try simp only [Act.put, List.setIfInBounds_toArray, List.set_cons_zero, List.set_cons_succ]
  refine wpAnyH_take (i := 2) (v := .slice (some aq) nl d) rfl (by kernel_rfl) (by kernel_rfl) (by kernel_rfl) (fun _ _ _ h => h) (Or.inl ⟨by kernel_rfl, fun V hSV => ?_⟩) hHeld ?_
  · (try dsimp only at hSV); go_simp
  try simp only [Act.put, List.setIfInBounds_toArray, List.set_cons_zero, List.set_cons_succ]
  refine wpAnyH_take (i := 3) (v := .pointer (some aq)) rfl (by kernel_rfl) (by kernel_rfl) (by kernel_rfl) (fun _ _ _ h => h) (Or.inl ⟨by kernel_rfl, fun V hSV => ?_⟩) hHeld ?_
  · (try dsimp only at hSV); go_simp
  try simp only [Act.put, List.setIfInBounds_toArray, List.set_cons_zero, List.set_cons_succ]
  refine wpAnyH_take (i := 4) (v := .int .i64 p) rfl (by kernel_rfl) (by kernel_rfl) (by kernel_rfl) (fun _ _ _ h => h) (Or.inl ⟨by kernel_rfl, fun V hSV => ?_⟩) hHeld ?_
  · (try dsimp only at hSV); go_simp
  try simp only [Act.put, List.setIfInBounds_toArray, List.set_cons_zero, List.set_cons_succ]
  refine wpAnyH_take (i := 6) (v := .pointer (some ⟨bj, 10, none⟩)) rfl (by kernel_rfl) (by kernel_rfl) (by kernel_rfl) (fun _ _ _ h => h) (Or.inl ⟨by kernel_rfl, fun V hSV => ?_⟩) hHeld ?_
  · (try dsimp only at hSV); go_simp
  try simp only [Act.put, List.setIfInBounds_toArray, List.set_cons_zero, List.set_cons_succ]
  refine wpAnyH_take (i := 7) (v := .slice S s.length sc) rfl (by kernel_rfl) (by kernel_rfl) (by kernel_rfl) (fun _ _ _ h => h) (Or.inl ⟨by kernel_rfl, fun V hSV => ?_⟩) hHeld ?_
  · (try dsimp only at hSV); go_simp
  try simp only [Act.put, List.setIfInBounds_toArray, List.set_cons_zero, List.set_cons_succ]
  refine wpAnyH_ready (rs := [5]) (by kernel_rfl) (by simp) ?_
  refine AllReadyH.cons rfl (fun K9_ hK => ?_) AllReadyH.nil
  go_simp
  refine (HP.out _ hdr.out).mono ?_; rintro e1 w1 ⟨P1, r1, Q1, q1, rfl, ht, k1⟩
  dsimp only
  have K1 := Lib.hid (hdr.out.tr k1.out)
  have F1 := Lib.hid (FB.out.kp k1.out)
  have hS1 := HSS.out _ K1.out
  clear k1
  refine hK.out _ _ ?_ (fun hHeld => ?_)
  · exact hS1
  clear hK
  try simp only [Act.put, List.setIfInBounds_toArray, List.set_cons_zero, List.set_cons_succ]
  refine wpAnyH_ready (rs := [8]) (by kernel_rfl) (by simp) ?_
  refine AllReadyH.cons rfl (fun K9_ hK => ?_) AllReadyH.nil
  go_simp
  refine (HC.out _ _ _ _ _ K1.out ht.out).mono ?_; rintro e2 w2 ⟨A3, c3, B3, d3, rfl, s3, t3, k2⟩
  dsimp only
  have K2 := Lib.hid (K1.out.tr k2)
  have F2 := Lib.hid (F1.out.kp k2)
  have S2 := Lib.hid s3; have T2 := Lib.hid t3
  have hS2 := HSS.out _ K2.out
  clear k2 s3 t3
  refine hK.out _ _ ?_ (fun hHeld => ?_)
  · exact hS2
  clear hK
  try simp only [Act.put, List.setIfInBounds_toArray, List.set_cons_zero, List.set_cons_succ]
  have o0 := F2.out.cell (j := 0) rfl
  have o1 := F2.out.cell (j := 1) rfl
  have o2 := F2.out.cell (j := 2) rfl
  have f0 := F2.out.frz 0
  have f1 := F2.out.frz 1
  have f2 := F2.out.frz 2
  have hS3 := HSS.out _ (((K2.out.setCell (p := ⟨W.heap.size, 0, none⟩) (Nat.le_refl _) (.slice A3 Q3.1.1.length c3)).setCell (p := ⟨W.heap.size, 1, none⟩) (Nat.le_refl _) (.slice B3 Q3.1.2.length d3)).setCell (p := ⟨W.heap.size, 2, none⟩) (Nat.le_refl _) (.int .i64 Q3.2))
  refine wpAnyH_ready (rs := [9]) (by kernel_rfl) (by simp) ?_
  refine AllReadyH.cons rfl (fun K9_ hK => ?_) AllReadyH.nil
  go_simp
  refine hK.out _ _ ?_ (fun hHeld => ?_)
  · exact hS3
  clear hK
  try simp only [Act.put, List.setIfInBounds_toArray, List.set_cons_zero, List.set_cons_succ]
  refine wpAnyH_done (by kernel_rfl) ?_ _
  clear hHeld hS1 hS2 hS3 HSS
  go_wp2
  refine bodyPost_ret (v := .agg #[.slice A3 Q3.1.1.length c3, .slice B3 Q3.1.2.length d3, .int .i64 Q3.2]) (by simp [results, Tryz.results41, go_sem, o0, o1, o2]; try rfl) rfl ?_
  exact RetTo.box (slice_ne _ _ _) (slice_ne _ _ _) rfl rfl rfl HE.out (Nat.le_refl _) F2.out S2.out T2.out K2.out
end
end Go.Proofs.YtdbncanedokinaaGreat.Ez
