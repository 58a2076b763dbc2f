/- Stretching: what it answers. -/
import Derived.Test.YtdekchfapblgeaaTnR
namespace Go.Proofs.Ytdekchfapblgeaa
open Go.RowKit Go.Shelf Go.Proofs.ShM Go.Proofs.FixM
attribute [local go_sem] Oper.semAt_some

namespace TnI
def setP (val : Nat → Int) (pre : List Nat) (zs : List Int) : List Int := pre.foldl (fun z k => z.set k (val k)) zs
theorem setP_snoc (val : Nat → Int) (pre : List Nat) (k : Nat) (zs : List Int) : setP val (pre ++ [k]) zs = (setP val pre zs).set k (val k) := by simp [setP]
theorem setP_len (val : Nat → Int) (pre : List Nat) : ∀ zs : List Int, (setP val pre zs).length = zs.length := by
  induction pre with
  | nil => intro zs; rfl
  | cons k pre ih => intro zs; show (setP val pre (zs.set k (val k))).length = _; rw [ih]; simp
theorem setP_range (val : Nat → Int) (N : Nat) : ∀ k, k ≤ N → setP val (List.range k) (List.replicate N 0) = (List.range k).map val ++ List.replicate (N - k) 0 := by
  intro k
  induction k with
  | zero => intro _; simp [setP]
  | succ k ih =>
    intro hk
    rw [List.range_succ, setP_snoc, ih (by omega), List.set_append_right _ _ (by simp)]
    obtain ⟨j, hj⟩ : ∃ j, N - k = j + 1 := ⟨N - k - 1, by omega⟩
    rw [hj, show N - (k + 1) = j by omega]
    simp [List.replicate_succ]
theorem setP_spread (s xs g : List Int) (N : Nat) : setP (fun i => xs.getD (srcI s g i).toNat 0) (List.range N) (List.replicate N 0) = spreadL s xs g N := by
  rw [setP_range _ _ _ (Nat.le_refl _)]; simp [spreadL]
end TnI

theorem below_grown {B : Nat} {W W' : World} {row : Option Nat} (hB : B ≤ W.heap.size) (hg : W.grownBy W' row) (hr : ∀ r, row = some r → B ≤ r ∧ ∃ o : Obj, W.heap[r]? = some o ∧ o.isCells = false) : Below B W W' :=
  (Below.refl B W).grown hg hB (fun k e => (hr k e).1)
theorem Own.tb {b B g n c : Nat} {W W' : World} {xs : List Int} (h : Own b W (.slice (some ⟨g, 0, none⟩) n c) xs) (k : Below B W W') (hg : g < B) : Own b W' (.slice (some ⟨g, 0, none⟩) n c) xs :=
  h.of_block fun j hj => by
    injection hj with hj
    subst hj
    exact k.block g hg
theorem Qp.put {w : World} {Bs Bf : Nat} {C : Option Addr} {gl e : Nat} {A : Option Addr} {sl c : Nat} {W : World} (h : Qp w Bs Bf C gl e A sl c W) {p : Addr} (h1 : p.block ≠ Bs) (h2 : p.block ≠ Bf) (h3 : w.heap.size ≤ p.block) (u : Value) : Qp w Bs Bf C gl e A sl c (W.setCell p u) where
  bs := cell_ne (fun e => h1 (congrArg Addr.block e)) h.bs
  bf := cell_ne (fun e => h2 (congrArg Addr.block e)) h.bf
  kp := h.kp.setCell h3 u
  ls := by rw [World.size_setCell]; exact h.ls
  lf := by rw [World.size_setCell]; exact h.lf

set_option maxRecDepth 100000 in
set_option maxHeartbeats 4000000 in
theorem spread_true (A B C : Option Addr) (c d e : Nat) (s xs g : List Int) (w : World) (hA : Rd w A s) (hB : Rd w B xs) (hC : Rd w C g) (ht : tokV s xs = true) (hf : fitsV s g = true) :
    Calls Try.prog 16 #[.agg #[.slice A s.length c, .slice B xs.length d], .slice C g.length e] w (RetT (spreadV s xs g) w) := by
  have hl := hA.len
  have gl := hB.len
  have kl := hC.len
  have F0 := Lib.hid (Fr.mk_ w A s.length c B xs.length d 24)
  have HT := Lib.hid (tcheck_any A B c d s xs _ (hA.kp F0.out.kp) (hB.kp F0.out.kp))
  rw [ht] at HT
  have HG : Hid (∀ W, Kp w W → Calls Try.prog 26 #[.slice A s.length c, .slice C g.length e] W fun e w' => e = .returned (.bool true) ∧ Kp W w') := fun W k => by rw [← hf]; exact fits_any A C c e s g W (hA.kp k) (hC.kp k)
  have hg := (fits_al hf).2.1
  have hp := ok_prod hg
  have hz := size_ok hg
  obtain ⟨N, hN⟩ : ∃ N : Nat, sizeV g = N := ⟨(sizeV g).toNat, by omega⟩
  have HF := Lib.hid (TnG.spread_yes ht hf)
  rw [hN, Int.toNat_natCast, ← TnI.setP_spread] at HF
  have HS : Hid (∀ W, Kp w W → Calls Try.prog 29 #[.slice C g.length e] W fun e w' => e = .returned (.int .i64 (N : Int)) ∧ W = w') := fun W kk => by
    have hh := size_any C e g W (hC.kp kk)
    rw [hN] at hh
    exact hh
  have HM : Hid (∀ k : Nat, k < N → ∃ m : Nat, srcI s g k = (m : Int) ∧ m < xs.length) := fun k hk => TnG.src_nat ht hf hN hk
  have HPS : Hid (∀ (n Bs Bf : Nat) (w0 : World), 1 ≤ n → Qp w Bs Bf C g.length e A s.length c w0 → SeqStopsK Fence.wide n Try.prog 46 #[.pointer (some ⟨Bs, 0, none⟩), .pointer (some ⟨Bf, 0, none⟩)] (plEnc s g N) (fun W W' => Qp w Bs Bf C g.length e A s.length c W → Qp w Bs Bf C g.length e A s.length c W')
      (fun xs => xs.map (·.1) = List.range N) (fun pre => ∃ k, k ≤ N ∧ pre.map (·.1) = List.range k) N w0) := fun n Bs Bf w0 hn hq => places_stops A C c e s g N Bs Bf n w w0 hA hC hf hN hn hq
  have n1 : 0 < N := by omega
  have n2 : N ≤ 64 := by omega
  have hg3 : g.length ≤ 1000000 := by have := (ok_iff.1 hg).1; omega
  have HCL : Hid (∀ W, Kp w W → Calls Try.prog 30 #[.slice C g.length e] W (RetO g W)) := fun W kk => clone_any C e g W (hC.kp kk) hg3
  obtain ⟨cs, hmk, hown0⟩ := mk_ N (by omega)
  have HOW := Lib.hid hown0
  have HBX := Lib.hid hB
  clear ht hf hg hp hz hN hown0 hg3
  refine (callsIn_wide (n := 4)).1 ?_
  refine callsIn_of_wp_marks Try.func16 rfl trivial ?_ rfl
  simp only [Try.ntmps16, List.size_toArray, List.length_cons, List.length_nil, Nat.reduceAdd, Nat.reduceSub, Array.replicate_succ, Array.replicate_zero, List.push_toArray, List.append_toArray, List.nil_append, List.cons_append]
  gi_wp2_with fail
  refine ⟨trivial, (callsIn_wide.2 HT.out).mono ?_⟩; rintro en w1 ⟨rfl, k1⟩
  have F1 := Lib.hid (F0.out.tr k1)
  have b0 := F1.out.b0
  have b1 := F1.out.b1
  clear k1
  gi_wp2_with fail
  refine ⟨trivial, (callsIn_wide.2 (HG.out _ F1.out.kp)).mono ?_⟩; rintro en w2 ⟨rfl, k2⟩
  have F2 := Lib.hid (F1.out.tr k2)
  clear k2 b0 b1
  gi_wp2_with fail
  refine ⟨trivial, (callsIn_wide.2 (HS.out _ F2.out.kp)).mono ?_⟩; rintro en w3 ⟨rfl, rfl⟩
  have b0 := F2.out.b0
  have y1 : w.heap.size < w2.heap.size := by have := F2.out.sz; omega
  have y2 : w.heap.size < w2.heap.size + 1 := by omega
  gi_wp2_with fail
  refine ⟨trivial, (callsIn_wide.2 (places_any _ _ _ _ _ _ _)).mono ?_⟩; rintro en w4 ⟨rfl, rfl⟩
  gi_wp2_with fail
  have hmx : Try.prog.follows .mixedOrders = true := by kernel_rfl
  obtain ⟨W1, hW1⟩ : ∃ W1, ((((w2.alloc (.cells cs 3)).alloc (.cells #[.slice (some ⟨w2.heap.size, 0, none⟩) N N] 22)).alloc (.cells #[.slice C g.length e] 22)).alloc (.cells #[.slice A s.length c] 22)) = W1 := ⟨_, rfl⟩
  have FW : Hid (Fr w A s.length c B xs.length d W1) := by show Fr w A s.length c B xs.length d W1; rw [← hW1]; exact (((F2.out.tr (Kp.alloc_ _ _)).tr (Kp.alloc_ _ _)).tr (Kp.alloc_ _ _)).tr (Kp.alloc_ _ _)
  have SW : Hid (W1.heap.size = w2.heap.size + 4 ∧ w.heap.size + 2 ≤ w2.heap.size) := ⟨by rw [← hW1]; simp, F2.out.sz⟩
  have OW : Hid (Own (w.heap.size + 2) W1 (.slice (some ⟨w2.heap.size, 0, none⟩) N N) (List.replicate N 0)) := by
    show Own (w.heap.size + 2) W1 _ _; rw [← hW1]; exact (((HOW.out w2 (w.heap.size + 2) F2.out.sz).kp (Kp.alloc_ _ _)).kp (Kp.alloc_ _ _)).kp (Kp.alloc_ _ _)
  have BW : Hid (W1.cell? ⟨w2.heap.size + 1, 0, none⟩ = some (.slice (some ⟨w2.heap.size, 0, none⟩) N N)) := by show W1.cell? _ = _; rw [← hW1]; simp [go_sem]
  have QW : Hid (Qp w (w2.heap.size + 1 + 1) (w2.heap.size + 1 + 1 + 1) C g.length e A s.length c W1) := by
    refine Lib.hid ⟨by rw [← hW1]; simp [go_sem], by rw [← hW1]; simp [go_sem], FW.out.kp, ?_, ?_⟩
    · have := SW.out.1; omega
    · have := SW.out.1; omega
  rw [hW1]
  clear hW1 b0 y1 y2 hmk
  have hw1 : w.heap.size ≤ W1.heap.size := FW.out.kp.size
  refine wpIn_rangeFunc_ownF rfl (by omega) (gf := 46) (lb := #[.pointer (some ⟨w2.heap.size + 1 + 1, 0, none⟩), .pointer (some ⟨w2.heap.size + 1 + 1 + 1, 0, none⟩)]) rfl trivial (enters_of Try.func46 (by kernel_rfl) rfl)
    (HPS.out _ _ _ W1 (by omega) QW.out) (fun h k q => k (h q))
    (fun W l o o' hl h ho hw q => q.tb (belowK_b (w := W1) (Nat.le_refl _) W l o o' hl h ho hw) (by have := SW.out.1; omega) (by have := SW.out.1; omega) hw1)
    (Below.refl _ _) (fun _ => rfl)
    (fun pre W => W1.heap.size ≤ W.heap.size ∧ Fr w A s.length c B xs.length d W ∧ W.cell? ⟨w2.heap.size + 1, 0, none⟩ = some (.slice (some ⟨w2.heap.size, 0, none⟩) N N) ∧ Own (w.heap.size + 2) W (.slice (some ⟨w2.heap.size, 0, none⟩) N N) (TnI.setP (fun i => xs.getD (srcI s g i).toNat 0) (pre.map (·.1)) (List.replicate N 0)))
    (fun _ _ _ => False)
    (fun pre W W' row hs hg hr => by
      have hb := below_grown hs.1 hg hr
      have := SW.out
      exact ⟨Nat.le_trans hs.1 hb.size, hs.2.1.tb (hb.mono (by omega)), (hb.cell (p := ⟨w2.heap.size + 1, 0, none⟩) (by show w2.heap.size + 1 < _; omega)).trans hs.2.2.1, hs.2.2.2.tb hb (by omega)⟩)
    (fun _ _ _ _ _ hs _ _ => hs)
    ⟨Nat.le_refl _, FW.out, BW.out, OW.out⟩
    (fun x => { tmps := #[.agg #[.slice A s.length c, .slice B xs.length d], .slice C g.length e, .pointer (some ⟨w.heap.size, 0, none⟩), undef, .pointer (some ⟨w.heap.size + 1, 0, none⟩), .int .i64 0, .pointer (some ⟨w2.heap.size + 1, 0, none⟩), .int .i64 (x.1 : Int), .int .i64 (srcI s g x.1),
      .agg #[.slice A s.length c, .slice B xs.length d], .bool true, .bool false, undef, .pointer (some ⟨w.heap.size, 0, none⟩), .slice A s.length c, .slice C g.length e, .bool true, .bool false, undef, .slice C g.length e, .int .i64 (N : Int), .slice (some ⟨w2.heap.size, 0, none⟩) N N, .slice C g.length e, .pointer (some ⟨w.heap.size, 0, none⟩), .slice A s.length c,
      .func (.func 46) #[] #[.pointer (some ⟨w2.heap.size + 1 + 1, 0, none⟩), .pointer (some ⟨w2.heap.size + 1 + 1 + 1, 0, none⟩)], .int .i64 (x.1 : Int), .int .i64 (srcI s g x.1), undef, undef, undef, undef, undef, undef, undef, undef, undef, undef, undef, undef], defers := [] }) ?assign ?body ?done ?stop
  case assign =>
    intro l x W K hK
    gi_wp2
    exact hK
  case body =>
    rintro l pre ⟨k, hk⟩ W ⟨hsz, hfr, hbx, hown⟩ _
    obtain ⟨m, hm, hmx2⟩ := HM.out k hk
    obtain ⟨bd, x0, rfl, hbl, hx, hc⟩ := HBX.out.at_ hmx2
    dsimp only
    rw [hm]
    have b1 := hfr.b1
    have c1 : W.cell? (bd.add m) = some (.int .i64 x0) := (hfr.kp.cell (by rw [block_of_add]; exact hbl)).trans hc
    have HLN : Hid ((TnI.setP (fun i => xs.getD (srcI s g i).toNat 0) (pre.map (·.1)) (List.replicate N 0)).length = N) := by show List.length _ = N; rw [TnI.setP_len]; simp
    have e1 := hown.cell_ (j := k) (List.getElem?_eq_getElem (by rw [HLN.out]; exact hk))
    have e2 := hown.froz_ k
    have HO := Lib.hid hown
    have HFR := Lib.hid hfr
    have HV : Hid (xs.getD (srcI s g k).toNat 0 = x0) := by show List.getD _ _ _ = x0; rw [hm, Int.toNat_natCast, List.getD_eq_getElem?_getD, hx]; rfl
    have i1 : (0 : Int) ≤ (m : Int) := by omega
    have i2 : (m : Int) < (xs.length : Int) := by omega
    have i3 : (k : Int) < (N : Int) := by omega
    have i4 : (0 : Int) ≤ (k : Int) := by omega
    have HSW := Lib.hid SW.out
    clear hm hx hc hown hbl
    gi_wp2
    refine round_tail 8 hmx (by kernel_rfl) (by kernel_rfl) (fun ⟨_, _, h⟩ => h) ?_
    simp only [List.take_succ_cons, List.take_zero, List.drop_succ_cons, List.drop_zero]
    repeat still_step
    try refine wpStill_nil ?_
    change wpList _ _ _ _ _ W.drew
    go_wp2
    have hne : w2.heap.size ≠ w2.heap.size + 1 := by omega
    refine ⟨(KeepsOthers.drew _).trans (KeepsOthers.setCell _ _ _), fun q => (q.tr (Below.drew (Kp.refl _))).put (p := ⟨w2.heap.size, k, none⟩) (by show w2.heap.size ≠ _; omega) (by show w2.heap.size ≠ _; omega) (by show w.heap.size ≤ w2.heap.size; have := HSW.out.2; omega) _, ?_, ?_, ?_, ?_⟩
    · show W1.heap.size ≤ (W.setCell ⟨w2.heap.size, k, none⟩ (.int .i64 x0)).heap.size
      rw [World.size_setCell]; exact hsz
    · exact (HFR.out.tr (Below.drew (Kp.refl _))).tb ((Below.refl _ _).setCell (p := ⟨w2.heap.size, k, none⟩) HSW.out.2 _)
    · exact cell_ne (fun e => hne (congrArg Addr.block e)) hbx
    · rw [List.map_append, List.map_cons, List.map_nil, TnI.setP_snoc]
      show Own _ _ _ (List.set _ k (xs.getD (srcI s g k).toNat 0))
      rw [HV.out]
      exact (HO.out.set_ k x0).drew
  case done =>
    rintro D ys W hD hS ⟨hsz, hfr, hbx, hown⟩ hK
    have hDl : D < W.heap.size := (Array.getElem?_eq_some_iff.1 hK).1
    rw [hS] at hown
    have HO := Lib.hid hown
    have HFR := Lib.hid hfr
    have HBC := Lib.hid hbx
    have HKD := Lib.hid hK
    have y1 : w2.heap.size + 1 < W.heap.size := by have := SW.out.1; omega
    have HCW : Hid (Kp w W.drew) := hfr.kp.drew
    clear hown hK
    obtain ⟨_, b0, b1, r0, r1, f0, f1, hfs⟩ := hfr
    have y2 : w.heap.size + 1 < W.heap.size := by omega
    gi_wp2
    refine wpIn_calm ?_
    gi_region_with_o (refine ⟨trivial, ?_⟩; gi_at_call 30; refine (callsIn_wide.2 (HCL.out _ HCW.out)).mono ?_; rintro en w5 ⟨AS, cS, rfl, oS, kS⟩; have cellF : ∀ p : Addr, p.block < W.heap.size → w5.cell? p = W.cell? p := fun p hp => kS.cell hp; have frozF : ∀ p : Addr, p.block < W.heap.size → w5.frozen? p = W.frozen? p := fun p hp => kS.frozen hp; have HOS := Lib.hid oS; have HKS : Hid (Kp W w5) := ⟨kS.os, kS.tape, kS.output, kS.size, kS.block⟩; clear oS kS)
    all_goals gi_wp2
    all_goals
      have hK5 : w5.heap[D]? = some (.deferred (some [])) := (HKS.out.block D hDl).trans HKD.out
      have hD2 : w.heap.size + 1 < D := by have := SW.out.1; have := SW.out.2; omega
      have hF5 := HFR.out.tr HKS.out
      refine ret_marks (v := .tuple #[.agg #[.slice AS g.length cS, .slice (some ⟨w2.heap.size, 0, none⟩) N N], .int .i64 0]) (fin_K hK5 hD2 _ _) (by
        have q0 := hF5.fin_0 hK5 hD2 (.slice AS g.length cS) (.slice (some ⟨w2.heap.size, 0, none⟩) N N)
        have q1 := hF5.fin_1 hK5 hD2 (.slice AS g.length cS) (.slice (some ⟨w2.heap.size, 0, none⟩) N N)
        unfold finW at q0 q1
        simp [results, Try.results16, go_sem, q0, q1]) ?_
      exact RetT.on HF.out rfl (by rw [TnI.setP_len]; simp) (HOS.out.fin (by show _ < W.heap.size; omega) hK5 hD2 _ _).sl.rd ((HO.out.kp HKS.out).fin (Nat.lt_succ_self _) hK5 hD2 _ _).sl.rd (hF5.fin_kp hK5 hD2 _ _)
  case stop =>
    rintro D c pre W _ _ h _
    exact h.elim

set_option maxHeartbeats 2000000 in
theorem spread_any (A B C : Option Addr) (c d e : Nat) (s xs g : List Int) (w : World) (hA : Rd w A s) (hB : Rd w B xs) (hC : Rd w C g) :
    Calls Try.prog 16 #[.agg #[.slice A s.length c, .slice B xs.length d], .slice C g.length e] w (RetT (spreadV s xs g) w) := by
  have hl := hA.len
  have gl := hB.len
  have kl := hC.len
  cases ht : tokV s xs with
  | false =>
    have F0 := Lib.hid (Fr.mk_ w A s.length c B xs.length d 24)
    have HT := Lib.hid (tcheck_any A B c d s xs _ (hA.kp F0.out.kp) (hB.kp F0.out.kp))
    rw [ht] at HT
    have HF := Lib.hid (TnG.spread_no g ht)
    clear ht
    go_enter Try.func16, Try.ntmps16
    go_wp2_with fail
    refine (Calls.mono (Hid.out HT)) ?_; rintro e w1 ⟨rfl, k1⟩
    have F1 := Lib.hid (F0.out.tr k1)
    obtain ⟨_, b0, b1, r0, r1, f0, f1, _⟩ := F1.out
    clear k1
    go_wp2
    refine bodyPost_ret (by simp [results, Try.results16, go_sem, r0, r1]; try rfl) rfl ?_
    exact RetT.err HF.out (F1.out.end_ _ _)
  | true =>
    cases hf : fitsV s g with
    | true => exact spread_true A B C c d e s xs g w hA hB hC ht hf
    | false =>
      have F0 := Lib.hid (Fr.mk_ w A s.length c B xs.length d 24)
      have HT := Lib.hid (tcheck_any A B c d s xs _ (hA.kp F0.out.kp) (hB.kp F0.out.kp))
      rw [ht] at HT
      have HG : Hid (∀ W, Kp w W → Calls Try.prog 26 #[.slice A s.length c, .slice C g.length e] W fun e w' => e = .returned (.bool false) ∧ Kp W w') := fun W k => by rw [← hf]; exact fits_any A C c e s g W (hA.kp k) (hC.kp k)
      have HF := Lib.hid (TnG.spread_misfit ht hf)
      clear ht hf
      go_enter Try.func16, Try.ntmps16
      go_wp2_with fail
      refine (Calls.mono (Hid.out HT)) ?_; rintro e w1 ⟨rfl, k1⟩
      have F1 := Lib.hid (F0.out.tr k1)
      obtain ⟨_, b0, b1, _, _, _, _, _⟩ := F1.out
      clear k1
      go_wp2_with fail
      refine (Calls.mono (HG.out _ F1.out.kp)) ?_; rintro e w2 ⟨rfl, k2⟩
      have F2 := Lib.hid (F1.out.tr k2)
      clear b0 b1 k2
      obtain ⟨_, b0, b1, r0, r1, f0, f1, _⟩ := F2.out
      go_wp2
      refine bodyPost_ret (by simp [results, Try.results16, go_sem, r0, r1]; try rfl) rfl ?_
      exact RetT.err HF.out (F2.out.end_ _ _)
end Go.Proofs.Ytdekchfapblgeaa
