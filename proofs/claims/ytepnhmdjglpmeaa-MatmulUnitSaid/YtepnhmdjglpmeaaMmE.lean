/- The document's Mul of layer 7 (fullerref07): what it answers. -/
import Derived.Test.YtepnhmdjglpmeaaMmD
namespace Go.Proofs.Ytepnhmdjglpmeaa
open Go.RowKit Go.Shelf Go.Proofs.ShM Go.Proofs.FixM
set_option linter.unusedVariables false

theorem two_ha {g b n : Nat} (h1 : g < n) (h2 : g ≠ b) : ∀ ad, (some ⟨g, 0, none⟩ : Option Addr) = some ad → ad.block < n ∧ ad.block ≠ b := fun ad e => by
  injection e with e
  subst e
  exact ⟨h1, h2⟩
theorem rd_blw {b : Nat} {W W' : World} {A : Option Addr} {xs : List Int} (h : Rd W A xs) (k : Below b W W') (ha : ∀ ad, A = some ad → ad.block < b) : Rd W' A xs :=
  ⟨h.1, fun hn => by
    obtain ⟨ad, e, hb, hc⟩ := h.2 hn
    exact ⟨ad, e, Nat.lt_of_lt_of_le hb k.size, fun j u hu => (k.cell (by rw [block_of_add]; exact ha ad e)).trans (hc j u hu)⟩⟩
/-- What stands in the document's loops: the tensor that grows, its shape. -/
structure Gx (V : World) (b8 : Nat) (A2 : Option Addr) (n c2 : Nat) (l zs : List Int) (Az : Option Addr) (cz : Nat) (W : World) : Prop where
  k : Below b8 V W
  b : Bk W b8 A2 n c2 Az zs.length cz
  o : Own V.heap.size W (.slice Az zs.length cz) zs
  r : Rd W A2 l
  sz : V.heap.size ≤ W.heap.size
  ha : ∀ ad, A2 = some ad → ad.block < V.heap.size ∧ ad.block ≠ b8
  hb : b8 < V.heap.size
section
variable {V W W' : World} {b8 n c2 cz : Nat} {A2 Az : Option Addr} {l zs : List Int}
theorem Gx.tr (h : Gx V b8 A2 n c2 l zs Az cz W) (k : Kp W W') : Gx V b8 A2 n c2 l zs Az cz W' :=
  ⟨h.k.trans (k.mono (by have := h.hb; have := h.sz; omega)), h.b.kp k, h.o.kp k, h.r.kp k, Nat.le_trans h.sz k.size, h.ha, h.hb⟩
theorem Gx.put {zs2 : List Int} {A5 : Option Addr} {c5 : Nat} (h : Gx V b8 A2 n c2 l zs Az cz W) (o : Own V.heap.size W' (.slice A5 zs2.length c5) zs2) (k : Below V.heap.size W W') :
    Gx V b8 A2 n c2 l zs2 A5 c5 (W'.setCell ⟨b8, 1, none⟩ (.slice A5 zs2.length c5)) where
  k := (h.k.trans (k.mono (Nat.le_of_lt h.hb))).setCell (p := ⟨b8, 1, none⟩) (Nat.le_refl _) _
  b := (h.b.tb k h.hb).set1
  o := o.put_ (p := ⟨b8, 1, none⟩) h.hb _
  r := (rd_blw h.r k fun ad e => (h.ha ad e).1).put_ (fun ad e => (h.ha ad e).2) _
  sz := by
    have h1 : (W'.setCell ⟨b8, 1, none⟩ (.slice A5 zs2.length c5)).heap.size = W'.heap.size := by show (W'.heap.modify _ _).size = _; exact Array.size_modify ..
    rw [h1]; exact Nat.le_trans h.sz k.size
  ha := h.ha
  hb := h.hb
end

set_option maxHeartbeats 8000000 in
set_option maxRecDepth 100000 in
theorem rmat_tok (A B C D : Option Addr) (c d e f : Nat) (s xs t ys : List Int) (w : World) (hA : Rd w A s) (hB : Rd w B xs) (hC : Rd w C t) (hD : Rd w D ys) (hk : tokV s xs = false ∨ tokV t ys = false) :
    Calls Try.prog 12 #[.agg #[.slice A s.length c, .slice B xs.length d], .agg #[.slice C t.length e, .slice D ys.length f]] w (RetT (matV s xs t ys) w) := by
  have hl1 := hA.len
  have hl2 := hC.len
  have F0 := Lib.hid (Mb.mk_ w A s.length c B xs.length d C t.length e D ys.length f)
  have HT1 := Lib.hid (fun W (k : Kp w W) => rtcheck_any A B c d s xs W (hA.kp k) (hB.kp k))
  have HT2 := Lib.hid (fun W (k : Kp w W) => rtcheck_any C D e f t ys W (hC.kp k) (hD.kp k))
  have HF : Hid (matV s xs t ys = ([], [], 30)) := by show matV s xs t ys = _; unfold matV; rw [if_pos hk]
  clear hA hB hC hD
  cases h1 : tokV s xs with
  | false =>
    rw [h1] at HT1
    clear hk h1
    generalize tokV t ys = b2 at HT2
    go_enter Try.func12, Try.ntmps12
    go_wp2_with fail
    refine (HT1.out _ F0.out.kp).mono ?_; rintro e0 w1 ⟨rfl, k1⟩
    have F1 := Lib.hid (F0.out.tr k1)
    clear k1
    have p2 := F1.out.t1.c0
    have p3 := F1.out.t1.c1
    go_wp2_with fail
    refine (HT2.out _ F1.out.kp).mono ?_; rintro e0 w2 ⟨rfl, k2⟩
    have F2 := Lib.hid (F1.out.tr k2)
    clear k2 p2 p3
    have p0 := F2.out.t0.c0
    have p1 := F2.out.t0.c1
    have p2 := F2.out.t1.c0
    have p3 := F2.out.t1.c1
    have r0 := F2.out.o.c0
    have r1 := F2.out.o.c1
    have u0 := F2.out.o.f0 0
    have u1 := F2.out.o.f0 1
    go_wp2
    refine bodyPost_ret (v := .tuple #[.agg #[.slice none 0 0, .slice none 0 0], .int .i64 30]) (by simp [results, Try.results12, go_sem, r0, r1]; try rfl) rfl ?_
    exact RetT.err HF.out (F2.out.end_ _ _)
  | true =>
    have h2 : tokV t ys = false := by rcases hk with h | h; (rw [h1] at h; cases h); exact h
    rw [h1] at HT1
    rw [h2] at HT2
    clear hk h1 h2
    go_enter Try.func12, Try.ntmps12
    go_wp2_with fail
    refine (HT1.out _ F0.out.kp).mono ?_; rintro e0 w1 ⟨rfl, k1⟩
    have F1 := Lib.hid (F0.out.tr k1)
    clear k1
    have p2 := F1.out.t1.c0
    have p3 := F1.out.t1.c1
    go_wp2_with fail
    refine (HT2.out _ F1.out.kp).mono ?_; rintro e0 w2 ⟨rfl, k2⟩
    have F2 := Lib.hid (F1.out.tr k2)
    clear k2 p2 p3
    have p0 := F2.out.t0.c0
    have p1 := F2.out.t0.c1
    have p2 := F2.out.t1.c0
    have p3 := F2.out.t1.c1
    have r0 := F2.out.o.c0
    have r1 := F2.out.o.c1
    have u0 := F2.out.o.f0 0
    have u1 := F2.out.o.f0 1
    go_wp2
    refine bodyPost_ret (v := .tuple #[.agg #[.slice none 0 0, .slice none 0 0], .int .i64 30]) (by simp [results, Try.results12, go_sem, r0, r1]; try rfl) rfl ?_
    exact RetT.err HF.out (F2.out.end_ _ _)

set_option maxHeartbeats 8000000 in
set_option maxRecDepth 100000 in
theorem rmat_s (A B C D : Option Addr) (c d e f : Nat) (s xs t ys : List Int) (w : World) (hA : Rd w A s) (hB : Rd w B xs) (hC : Rd w C t) (hD : Rd w D ys) (h1 : tokV s xs = true) (h2 : tokV t ys = true) (h3 : ¬ s.length = 2) :
    Calls Try.prog 12 #[.agg #[.slice A s.length c, .slice B xs.length d], .agg #[.slice C t.length e, .slice D ys.length f]] w (RetT (matV s xs t ys) w) := by
  have hl1 := hA.len
  have hl2 := hC.len
  have F0 := Lib.hid (Mb.mk_ w A s.length c B xs.length d C t.length e D ys.length f)
  have HT1 := Lib.hid (fun W (k : Kp w W) => rtcheck_any A B c d s xs W (hA.kp k) (hB.kp k))
  have HT2 := Lib.hid (fun W (k : Kp w W) => rtcheck_any C D e f t ys W (hC.kp k) (hD.kp k))
  have HF : Hid (matV s xs t ys = ([], [], 20)) := by show matV s xs t ys = _; unfold matV; rw [if_neg (by simp [h1, h2]), if_pos (Or.inl h3)]
  rw [h1] at HT1
  rw [h2] at HT2
  have h3' : ((s.length : Int) != 2) = true := by simp; omega
  clear hA hB hC hD h1 h2 h3
  go_enter Try.func12, Try.ntmps12
  go_wp2_with fail
  refine (HT1.out _ F0.out.kp).mono ?_; rintro e0 w1 ⟨rfl, k1⟩
  have F1 := Lib.hid (F0.out.tr k1)
  clear k1
  have p2 := F1.out.t1.c0
  have p3 := F1.out.t1.c1
  go_wp2_with fail
  refine (HT2.out _ F1.out.kp).mono ?_; rintro e0 w2 ⟨rfl, k2⟩
  have F2 := Lib.hid (F1.out.tr k2)
  clear k2 p2 p3
  have p0 := F2.out.t0.c0
  have p1 := F2.out.t0.c1
  have p2 := F2.out.t1.c0
  have p3 := F2.out.t1.c1
  have r0 := F2.out.o.c0
  have r1 := F2.out.o.c1
  have u0 := F2.out.o.f0 0
  have u1 := F2.out.o.f0 1
  go_wp2
  go_quiet (fail)
  go_wp2
  refine bodyPost_ret (v := .tuple #[.agg #[.slice none 0 0, .slice none 0 0], .int .i64 20]) (by simp [results, Try.results12, go_sem, r0, r1]; try rfl) rfl ?_
  exact RetT.err HF.out ((F2.out.tr (Kp.drewN_ _ _)).end_ _ _)

set_option maxHeartbeats 8000000 in
set_option maxRecDepth 100000 in
theorem rmat_t (A B C D : Option Addr) (c d e f : Nat) (s xs t ys : List Int) (w : World) (hA : Rd w A s) (hB : Rd w B xs) (hC : Rd w C t) (hD : Rd w D ys) (h1 : tokV s xs = true) (h2 : tokV t ys = true) (h3 : s.length = 2) (h4 : ¬ t.length = 2) :
    Calls Try.prog 12 #[.agg #[.slice A s.length c, .slice B xs.length d], .agg #[.slice C t.length e, .slice D ys.length f]] w (RetT (matV s xs t ys) w) := by
  have hl1 := hA.len
  have hl2 := hC.len
  have F0 := Lib.hid (Mb.mk_ w A s.length c B xs.length d C t.length e D ys.length f)
  have HT1 := Lib.hid (fun W (k : Kp w W) => rtcheck_any A B c d s xs W (hA.kp k) (hB.kp k))
  have HT2 := Lib.hid (fun W (k : Kp w W) => rtcheck_any C D e f t ys W (hC.kp k) (hD.kp k))
  have HF : Hid (matV s xs t ys = ([], [], 20)) := by show matV s xs t ys = _; unfold matV; rw [if_neg (by simp [h1, h2]), if_pos (Or.inr (Or.inl h4))]
  rw [h1] at HT1
  rw [h2] at HT2
  have h3' : ((s.length : Int) != 2) = false := by simp; omega
  have h4' : ((t.length : Int) != 2) = true := by simp; omega
  clear hA hB hC hD h1 h2 h3 h4
  go_enter Try.func12, Try.ntmps12
  go_wp2_with fail
  refine (HT1.out _ F0.out.kp).mono ?_; rintro e0 w1 ⟨rfl, k1⟩
  have F1 := Lib.hid (F0.out.tr k1)
  clear k1
  have p2 := F1.out.t1.c0
  have p3 := F1.out.t1.c1
  go_wp2_with fail
  refine (HT2.out _ F1.out.kp).mono ?_; rintro e0 w2 ⟨rfl, k2⟩
  have F2 := Lib.hid (F1.out.tr k2)
  clear k2 p2 p3
  have p0 := F2.out.t0.c0
  have p1 := F2.out.t0.c1
  have p2 := F2.out.t1.c0
  have p3 := F2.out.t1.c1
  have r0 := F2.out.o.c0
  have r1 := F2.out.o.c1
  have u0 := F2.out.o.f0 0
  have u1 := F2.out.o.f0 1
  go_wp2
  go_quiet (fail)
  go_wp2
  refine bodyPost_ret (v := .tuple #[.agg #[.slice none 0 0, .slice none 0 0], .int .i64 20]) (by simp [results, Try.results12, go_sem, r0, r1]; try rfl) rfl ?_
  exact RetT.err HF.out ((F2.out.tr (Kp.drewN_ _ _)).end_ _ _)

set_option maxHeartbeats 8000000 in
set_option maxRecDepth 100000 in
theorem rmat_tab (A B C D : Option Addr) (c d e f : Nat) (x0 x1 y0 y1 : Int) (xs ys : List Int) (w : World) (hA : Rd w A [x0, x1]) (hB : Rd w B xs) (hC : Rd w C [y0, y1]) (hD : Rd w D ys) (h1 : tokV [x0, x1] xs = true) (h2 : tokV [y0, y1] ys = true) (hI : I64s xs) (hJ : I64s ys) :
    Calls Try.prog 12 #[.agg #[.slice A 2 c, .slice B xs.length d], .agg #[.slice C 2 e, .slice D ys.length f]] w (RetT (matV [x0, x1] xs [y0, y1] ys) w) := by
  have hl1 := hA.len
  have hl2 := hC.len
  have F0 := Lib.hid (Mb.mk_ w A 2 c B xs.length d C 2 e D ys.length f)
  have HT1 := Lib.hid (fun W (k : Kp w W) => rtcheck_any A B c d [x0, x1] xs W (hA.kp k) (hB.kp k))
  have HT2 := Lib.hid (fun W (k : Kp w W) => rtcheck_any C D e f [y0, y1] ys W (hC.kp k) (hD.kp k))
  rw [h1] at HT1
  rw [h2] at HT2
  obtain ⟨ad, v0, hAe, hba, hv0, hc0⟩ := hA.at_ (k := 0) (by simp)
  obtain ⟨ad', v1, hAe', _, hv1, hc1⟩ := hA.at_ (k := 1) (by simp)
  obtain ⟨ae, u0, hCe, hbe, hu0, hd0⟩ := hC.at_ (k := 0) (by simp)
  obtain ⟨ae', u1, hCe', _, hu1, hd1⟩ := hC.at_ (k := 1) (by simp)
  subst hAe hCe
  obtain rfl : ad = ad' := by injection hAe'
  obtain rfl : ae = ae' := by injection hCe'
  obtain rfl : x0 = v0 := by injection hv0
  obtain rfl : x1 = v1 := by injection hv1
  obtain rfl : y0 = u0 := by injection hu0
  obtain rfl : y1 = u1 := by injection hu1
  have hc0' : w.cell? ad = some (.int .i64 x0) := by simpa [Addr.add] using hc0
  have hc1' : w.cell? ⟨ad.block, ad.off + 1, none⟩ = some (.int .i64 x1) := by simpa [Addr.add] using hc1
  have hd0' : w.cell? ae = some (.int .i64 y0) := by simpa [Addr.add] using hd0
  have hd1' : w.cell? ⟨ae.block, ae.off + 1, none⟩ = some (.int .i64 y1) := by simpa [Addr.add] using hd1
  have HCL : Hid (∀ W, Kp w W → W.cell? ad = some (.int .i64 x0) ∧ W.cell? ⟨ad.block, ad.off + 1, none⟩ = some (.int .i64 x1) ∧ W.cell? ae = some (.int .i64 y0) ∧ W.cell? ⟨ae.block, ae.off + 1, none⟩ = some (.int .i64 y1)) := fun W k => ⟨(k.cell (p := ad) hba).trans hc0', (k.cell (p := ⟨ad.block, ad.off + 1, none⟩) hba).trans hc1', (k.cell (p := ae) hbe).trans hd0', (k.cell (p := ⟨ae.block, ae.off + 1, none⟩) hbe).trans hd1'⟩
  have HRD := Lib.hid (And.intro hA (And.intro hB (And.intro hC hD)))
  have HBL := Lib.hid (And.intro hba hbe)
  have HTK := Lib.hid (And.intro h1 h2)
  have HIJ := Lib.hid (And.intro hI hJ)
  clear hc0 hc1 hd0 hd1 hv0 hv1 hu0 hu1 hc0' hc1' hd0' hd1' hAe' hCe' hba hbe hl1 hl2
  by_cases hx : x1 = y0
  · have hx' : (x1 != y0) = false := by simpa using hx
    obtain ⟨R, hR⟩ : ∃ R, R = matV [x0, x1] xs [y0, y1] ys := ⟨_, rfl⟩
    have HR := Lib.hid hR
    rw [← hR]
    clear hA hB hC hD h1 h2 hI hJ hR
    go_enter Try.func12, Try.ntmps12
    go_wp2_with fail
    refine (HT1.out _ F0.out.kp).mono ?_; rintro e0 w1 ⟨rfl, k1⟩
    have F1 := Lib.hid (F0.out.tr k1)
    clear k1
    have p2 := F1.out.t1.c0
    have p3 := F1.out.t1.c1
    go_wp2_with fail
    refine (HT2.out _ F1.out.kp).mono ?_; rintro e0 w2 ⟨rfl, k2⟩
    have F2 := Lib.hid (F1.out.tr k2)
    clear k2 p2 p3
    have p0 := F2.out.t0.c0
    have p1 := F2.out.t0.c1
    have p2 := F2.out.t1.c0
    have p3 := F2.out.t1.c1
    obtain ⟨g0, g1, g2, g3⟩ := HCL.out _ F2.out.kp
    go_wp2
    go_quiet (fail)
    go_upto_region 7 with fail
    obtain ⟨w3, hw3⟩ : ∃ w3, w3 = w2.drewN nq := ⟨_, rfl⟩
    have k3 : Kp w2 w3 := by rw [hw3]; exact Kp.drewN_ _ _
    have F3 := Lib.hid (F2.out.tr k3)
    rw [← hw3]
    clear hw3 k3 g0 g1 g2 g3 p0 p1 p2 p3
    go_cut [8] (fun v8 wx => ∃ b8 A2 c2, v8 = .pointer (some ⟨b8, 0, none⟩) ∧ Hid (Bk wx b8 A2 2 c2 none 0 0) ∧ Hid (Rd wx A2 [x0, y1]) ∧ Hid (Kp w3 wx) ∧ Hid (w3.heap.size ≤ b8 ∧ ∀ ad, A2 = some ad → ad.block < wx.heap.size ∧ ad.block ≠ b8))
    case first =>
      have hdr8 : Hid (Kp w3 w3.drew) := Below.drew (Kp.refl _)
      have HKX : Hid (∀ V, Kp w3 V → V.cell? ⟨w.heap.size, 0, none⟩ = some (.slice (some ad) 2 c) ∧ V.cell? ⟨w.heap.size + 1, 0, none⟩ = some (.slice (some ae) 2 e) ∧ V.cell? ad = some (.int .i64 x0) ∧ V.cell? ⟨ae.block, ae.off + 1, none⟩ = some (.int .i64 y1)) := fun V kV => ⟨(F3.out.t0.kp kV).c0, (F3.out.t1.kp kV).c0, (HCL.out _ (F3.out.kp.tr kV)).1, (HCL.out _ (F3.out.kp.tr kV)).2.2.2⟩
      go_region_held3 (fun V => V.cell? ⟨w.heap.size, 0, none⟩ = some (.slice (some ad) 2 c) ∧ V.cell? ⟨w.heap.size + 1, 0, none⟩ = some (.slice (some ae) 2 e) ∧ V.cell? ad = some (.int .i64 x0) ∧ V.cell? ⟨ae.block, ae.off + 1, none⟩ = some (.int .i64 y1)) (first | exact HKX.out _ hdr8.out | exact HKX.out _ (hdr8.out.al _) | exact HKX.out _ ((hdr8.out.al _).al _) | exact HKX.out _ (Below.drew ((Kp.refl _).al _)) | exact HKX.out _ (Below.drew (((Kp.refl _).al _).al _)))
        (first | fail)
      all_goals
        go_wp2
        go_meet
        first
        | exact ⟨w3.heap.size + 1, some ⟨w3.heap.size, 0, none⟩, 2, rfl, Bk.new (W := w3.alloc _) (World.size_alloc _ _).symm, (Rd.two_ rfl).alloc_ _, Below.drew ((Kp.alloc_ _ _).al _), Nat.le_succ _, two_ha (show w3.heap.size < ((w3.alloc _).alloc _).heap.size by rw [World.size_alloc, World.size_alloc]; omega) (by omega)⟩
        | exact ⟨w3.heap.size, some ⟨w3.heap.size + 1, 0, none⟩, 2, rfl, (Bk.new rfl).alloc_ _, Rd.two_ (World.size_alloc _ _).symm, Below.drew ((Kp.alloc_ _ _).al _), Nat.le_refl _, two_ha (show w3.heap.size + 1 < ((w3.alloc _).alloc _).heap.size by rw [World.size_alloc, World.size_alloc]; omega) (by omega)⟩
    case rest =>
      obtain ⟨b8, A2, c2, rfl, hB8, hR8, hK8, hL8⟩ := hcut
      have F4 := Lib.hid (F3.out.tr hK8.out)
      have HG : Hid (Gx wc b8 A2 2 c2 [x0, y1] [] none 0 wc) := ⟨Below.refl _ _, hB8.out, Own.nil_ _ _, hR8.out, Nat.le_refl _, hL8.out.2, hB8.out.lt⟩
      have LT8 : Hid (w.heap.size + 1 + 1 < b8) := by
        have l1 := F3.out.o.lt
        have l2 := hL8.out.1
        show _ < _; omega
      have HCK : Hid (∀ W, Rd W A2 [x0, y1] → Calls Try.prog 33 #[.slice A2 2 c2] W fun e w' => e = .returned (.bool (okS [x0, y1])) ∧ W = w') := fun W r => rcheck_any A2 c2 [x0, y1] W r
      have g8 := hB8.out.c0
      by_cases hok : okS [x0, y1] = false
      · have HF : Hid (R = ([], [], 20)) := by show R = _; rw [HR.out]; exact mat_shape HTK.out.1 HTK.out.2 (Or.inr hok)
        rw [hok] at HCK
        clear hok
        go_wp2_with fail
        refine (HCK.out _ hR8.out).mono ?_; rintro e0 w5 ⟨rfl, rfl⟩
        have r0 := F4.out.o.c0
        have r1 := F4.out.o.c1
        have u0 := F4.out.o.f0 0
        have u1 := F4.out.o.f0 1
        go_wp2
        refine bodyPost_ret (v := .tuple #[.agg #[.slice none 0 0, .slice none 0 0], .int .i64 20]) (by simp [results, Try.results12, go_sem, r0, r1]; try rfl) rfl ?_
        exact RetT.err HF.out (F4.out.end_ _ _)
      · have hok : okS [x0, y1] = true := by simpa using hok
        rw [hok] at HCK
        obtain ⟨M, K, em, m1, m2, k1, k2, l1⟩ := table_of HTK.out.1 rfl
        obtain ⟨K2, N, en, _, _, n1, n2, l2⟩ := table_of HTK.out.2 rfl
        injection em with e1 em
        injection em with e2 _
        injection en with e3 en
        injection en with e4 _
        subst e1 e2 e3 e4
        obtain rfl : K = K2 := by omega
        have HFM := Lib.hid (mat_form HTK.out.1 HTK.out.2 hok)
        obtain ⟨N9, hN9⟩ : ∃ N9, N9 = M * N := ⟨_, rfl⟩
        have HN9 := Lib.hid hN9
        have HN64 : Hid (N9 ≤ 64) := by
          have := (ok_prod hok).2
          have e3 : prodS [(M : Int), (N : Int)] = ((M * N : Nat) : Int) := by simp [prodS]
          rw [e3] at this
          show N9 ≤ 64; omega
        obtain ⟨F, hF⟩ : ∃ F, F = atQ xs ys K N := ⟨_, rfl⟩
        have HFE := Lib.hid hF
        have HRES : Hid (R = if (mapE F (List.range N9)).2 = 0 then ([(M : Int), (N : Int)], (mapE F (List.range N9)).1, 0) else ([], [], (mapE F (List.range N9)).2)) := by show R = _; rw [HR.out, HFM.out, hF, hN9]; rfl
        have HE0 : Hid (Ea F (List.range N9) 0 []) := ea_start
        clear hok hF HR hN9 HFM HT1 HT2 hx hx' l1 l2
        go_wp2_with fail
        refine (HCK.out _ hR8.out).mono ?_; rintro e0 w5 ⟨rfl, rfl⟩
        clear g8
        go_wp2
        go_loopw [10] (fun i wr => ∃ (i' : Nat) (zs : List Int) (Az : Option Addr) (cz : Nat), i = .int .i64 i' ∧ Hid (Ea F (List.range N9) (i' * N) zs) ∧ Hid (i' ≤ M) ∧ Hid (Gx wc b8 A2 2 c2 [(M : Int), (N : Int)] zs Az cz wr)) (fun i _ => M - (intOf i).toNat)
        case atStart => exact ⟨0, [], none, 0, rfl, by rw [Nat.zero_mul]; exact HE0.out, Nat.zero_le _, HG.out⟩
        case round =>
          obtain ⟨i, zs, Az, cz, rfl, hr, hi, hg⟩ := hrel
          have F5 := Lib.hid (F4.out.tb hg.out.k LT8.out)
          have t0 := F5.out.t0.c0
          obtain ⟨g0, _, _, _⟩ := HCL.out _ F5.out.kp
          by_cases hlt : i < M
          · have hlt' : (i : Int) < (M : Int) := by omega
            obtain ⟨Q, hQ⟩ : ∃ Q : Nat, Q = i * N := ⟨_, rfl⟩
            have HQ := Lib.hid hQ
            rw [← hQ] at hr
            clear hQ
            go_wp2
            go_loopw [11] (fun j wx => ∃ (j' : Nat) (zs : List Int) (Az : Option Addr) (cz : Nat), j = .int .i64 j' ∧ Hid (Ea F (List.range N9) (Q + j') zs) ∧ Hid (j' ≤ N) ∧ Hid (Gx wc b8 A2 2 c2 [(M : Int), (N : Int)] zs Az cz wx)) (fun j _ => N - (intOf j).toNat)
            case atStart => exact ⟨0, zs, Az, cz, rfl, hr.out, Nat.zero_le _, hg.out⟩
            case round =>
              obtain ⟨j, zs, Az, cz, rfl, hr, hj, hg⟩ := hrel
              have F6 := Lib.hid (F4.out.tb hg.out.k LT8.out)
              clear t0 g0
              have t0 := F6.out.t0.c0
              have t1 := F6.out.t0.c1
              have t2 := F6.out.t1.c0
              have t3 := F6.out.t1.c1
              obtain ⟨_, _, _, g3⟩ := HCL.out _ F6.out.kp
              by_cases hjt : j < N
              · have hjt' : (j : Int) < (N : Int) := by omega
                have hqM : Q + j < N9 := by rw [HQ.out, HN9.out]; exact lin_nat hlt hjt
                have hFq : F (Q + j) = dotV (rowF xs K i) (colF ys N j) K := by
                  rw [HFE.out]
                  show dotV (rowF xs K ((Q + j) / N)) (colF ys N ((Q + j) % N)) K = _
                  have e1 : Q + j = j + N * i := by rw [HQ.out, Nat.mul_comm]; omega
                  rw [e1, Nat.add_mul_div_left _ _ (by omega), Nat.add_mul_mod_self_left, Nat.div_eq_of_lt hjt, Nat.mod_eq_of_lt hjt, Nat.zero_add]
                obtain ⟨r1, hr1⟩ : ∃ r1, r1 = (F (Q + j)).1 := ⟨_, rfl⟩
                obtain ⟨r2, hr2⟩ : ∃ r2, r2 = (F (Q + j)).2 := ⟨_, rfl⟩
                have HNU : Hid (∀ W, Kp w W → Calls Try.prog 34 #[.agg #[.slice (some ad) 2 c, .slice B xs.length d], .agg #[.slice (some ae) 2 e, .slice D ys.length f], .int .i64 (i : Int), .int .i64 (j : Int)] W fun e W' => e = .returned (.tuple #[.int .i64 r1, .int .i64 r2]) ∧ Kp W W') := fun W kW => by
                  have hh := rnumber_any (some ad) B (some ae) D c d e f M K N i j xs ys W (HRD.out.1.kp kW) (HRD.out.2.1.kp kW) (HRD.out.2.2.1.kp kW) (HRD.out.2.2.2.kp kW) HTK.out.1 HTK.out.2 hlt hjt HIJ.out.1 HIJ.out.2 k2
                  rw [← hFq, ← hr1, ← hr2] at hh
                  exact hh
                have hrk : (List.range N9)[Q + j]? = some (Q + j) := List.getElem?_range hqM
                have HZL := Lib.hid (ea_len hr.out)
                by_cases he : r2 = 0
                · have HEE : Hid (∀ ys, ys = zs ++ [r1] → Ea F (List.range N9) (Q + (j + 1)) ys) := fun ys e2 => ea_step hr.out hrk (by rw [hr1, ← he, hr2]) e2
                  subst he
                  have hq64 : Q + j ≤ 64 := by have := HN64.out; omega
                  clear hFq hr1 hr2 hrk hqM
                  go_wp2_with fail
                  refine (HNU.out _ F6.out.kp).mono ?_; rintro e0 w6 ⟨rfl, k6⟩
                  have G6 := Lib.hid (hg.out.tr k6)
                  clear k6 t0 t1 t2 t3 g3
                  have y1_ := G6.out.b.c1
                  have y2_ := G6.out.b.f0 1
                  have HSZ2 := Lib.hid (And.intro G6.out.sz G6.out.hb)
                  go_wp2_with (at_builtin; refine wpList_app (B := wc.heap.size) rfl (.tmp 92) (.tmp 94) rfl _ zs rfl (G6.out.o.kp (Kp.alloc_ _ _)) _ _ [r1] _ rfl rfl (Rd.one _ _ _) (by have := HZL.out; simp; omega) (by have := HSZ2.out.1; simp; omega) ?_; intro zs2 A5 c5 w8 HZ hown2 hb2; have HB : Hid (Below wc.heap.size w6 w8) := (((Below.refl _ _).alloc HSZ2.out.1 _).trans hb2); have HO2 := Lib.hid hown2; have g3 := (HB.out.cell (p := ⟨b8, 1, none⟩) HSZ2.out.2).trans y1_; have g4 := (HB.out.frozen (p := ⟨b8, 1, none⟩) HSZ2.out.2).trans y2_; clear hown2 hb2)
                  go_roundw
                  case rel => exact ⟨j + 1, zs2, A5, c5, by go_num, HEE.out zs2 HZ.out, hjt, G6.out.put HO2.out HB.out⟩
                  case measure => simp [intOf]; omega
                · have HF : Hid (R = ([], [], r2)) := by
                    have h0 : r1 = 0 := by
                      have e1 : dotV (rowF xs K i) (colF ys N j) K = (0, 10) := dot_err (by rw [← hFq, ← hr2]; exact he)
                      rw [hr1, hFq, e1]
                    have hh := ea_bad hr.out hrk (by rw [← h0, hr1, hr2]) he
                    show R = _
                    rw [HRES.out, hh, if_neg he]
                  have he' : (r2 != 0) = true := by simpa using he
                  clear hFq hr1 hr2 hrk hqM he
                  go_wp2_with fail
                  refine (HNU.out _ F6.out.kp).mono ?_; rintro e0 w6 ⟨rfl, k6⟩
                  have F7 := Lib.hid (F6.out.tr k6)
                  clear k6 t0 t1 t2 t3 g3
                  have r0 := F7.out.o.c0
                  have r1 := F7.out.o.c1
                  have u0 := F7.out.o.f0 0
                  have u1 := F7.out.o.f0 1
                  go_wp2
                  refine bodyPost_ret (v := .tuple #[.agg #[.slice none 0 0, .slice none 0 0], .int .i64 r2]) (by simp [results, Try.results12, go_sem, r0, r1]; try rfl) rfl ?_
                  exact RetT.err HF.out (F7.out.end_ _ _)
              · have hjt' : ¬ (j : Int) < (N : Int) := by omega
                have hjN : j = N := by have := hj.out; omega
                have HEN : Hid (Ea F (List.range N9) ((i + 1) * N) zs) := by
                  have h := hr.out
                  rw [hjN, HQ.out] at h
                  show Ea _ _ _ _
                  rw [Nat.succ_mul]; exact h
                go_wp2
                go_roundw
                case rel => exact ⟨i + 1, zs, Az, cz, by go_num, HEN.out, hlt, hg.out⟩
                case measure => simp [intOf]; omega
          · have hlt' : ¬ (i : Int) < (M : Int) := by omega
            have hiM : i = M := by have := hi.out; omega
            have HE := Lib.hid (ea_end hr.out (by rw [List.length_range, hiM, HN9.out]; omega))
            have HFR : Hid (R = ([(M : Int), (N : Int)], zs, 0)) := by show R = _; rw [HRES.out, HE.out, if_pos rfl]
            have r0 := F5.out.o.c0
            have r1 := F5.out.o.c1
            have u0 := F5.out.o.f0 0
            have u1 := F5.out.o.f0 1
            have g8 := hg.out.b.c0
            have g9 := hg.out.b.c1
            clear hiM
            go_wp2
            refine bodyPost_ret (v := .tuple #[.agg #[.slice A2 2 c2, .slice Az zs.length cz], .int .i64 0]) (by simp [results, Try.results12, go_sem, r0, r1]; try rfl) rfl ?_
            exact RetT.of HFR.out (hg.out.r.past F5.out.o _ _) (hg.out.o.sl.rd.past F5.out.o _ _) (F5.out.end_ _ _)
  · have hx' : (x1 != y0) = true := by simpa using hx
    have HF : Hid (matV [x0, x1] xs [y0, y1] ys = ([], [], 20)) := mat_shape h1 h2 (Or.inl hx)
    clear hA hB hC hD h1 h2 hI hJ hx
    go_enter Try.func12, Try.ntmps12
    go_wp2_with fail
    refine (HT1.out _ F0.out.kp).mono ?_; rintro e0 w1 ⟨rfl, k1⟩
    have F1 := Lib.hid (F0.out.tr k1)
    clear k1
    have p2 := F1.out.t1.c0
    have p3 := F1.out.t1.c1
    go_wp2_with fail
    refine (HT2.out _ F1.out.kp).mono ?_; rintro e0 w2 ⟨rfl, k2⟩
    have F2 := Lib.hid (F1.out.tr k2)
    clear k2 p2 p3
    have p0 := F2.out.t0.c0
    have p1 := F2.out.t0.c1
    have p2 := F2.out.t1.c0
    have p3 := F2.out.t1.c1
    obtain ⟨g0, g1, g2, g3⟩ := HCL.out _ F2.out.kp
    have r0 := F2.out.o.c0
    have r1 := F2.out.o.c1
    have u0 := F2.out.o.f0 0
    have u1 := F2.out.o.f0 1
    go_wp2
    go_quiet (fail)
    go_wp2
    refine bodyPost_ret (v := .tuple #[.agg #[.slice none 0 0, .slice none 0 0], .int .i64 20]) (by simp [results, Try.results12, go_sem, r0, r1]; try rfl) rfl ?_
    exact RetT.err HF.out ((F2.out.tr (Kp.drewN_ _ _)).end_ _ _)

theorem rmat_any (A B C D : Option Addr) (c d e f : Nat) (s xs t ys : List Int) (w : World) (hA : Rd w A s) (hB : Rd w B xs) (hC : Rd w C t) (hD : Rd w D ys) (hI : I64s xs) (hJ : I64s ys) :
    Calls Try.prog 12 #[.agg #[.slice A s.length c, .slice B xs.length d], .agg #[.slice C t.length e, .slice D ys.length f]] w (RetT (matV s xs t ys) w) := by
  by_cases hk : tokV s xs = false ∨ tokV t ys = false
  · exact rmat_tok A B C D c d e f s xs t ys w hA hB hC hD hk
  have h1 : tokV s xs = true := by cases h : tokV s xs; (exact absurd (Or.inl h) hk); rfl
  have h2 : tokV t ys = true := by cases h : tokV t ys; (exact absurd (Or.inr h) hk); rfl
  by_cases h3 : s.length = 2
  · by_cases h4 : t.length = 2
    · obtain ⟨x0, x1, rfl⟩ : ∃ x0 x1, s = [x0, x1] := ⟨_, _, two_of h3⟩
      obtain ⟨y0, y1, rfl⟩ : ∃ y0 y1, t = [y0, y1] := ⟨_, _, two_of h4⟩
      exact rmat_tab A B C D c d e f x0 x1 y0 y1 xs ys w hA hB hC hD h1 h2 hI hJ
    · exact rmat_t A B C D c d e f s xs t ys w hA hB hC hD h1 h2 h3 h4
  · exact rmat_s A B C D c d e f s xs t ys w hA hB hC hD h1 h2 h3

end Go.Proofs.Ytepnhmdjglpmeaa
