/- The landed infer: Node. -/
import Derived.Test.YtnkkkpanlnencaaInZh
import Derived.Laws.CopyOwn
import Derived.Deep.RegionWith
namespace Go.Proofs.Ytnkkkpanlnencaa.Iz
open Go.RowKit Go.Proofs.ShM Go.Proofs.GrM Go.Proofs.InM Go.Proofs.Ytnkkkpanlnencaa.Gz
set_option linter.unusedVariables false
set_option linter.unusedSimpArgs false
set_option maxHeartbeats 8000000

theorem node_no {op : Int} {nums : List Int} {gs : List (List Int)} (h : (decide ((gs.length : Int) = arityV op) && (numsB (op, [], nums) && gs.all okS)) = false) : nodeV op nums gs = ([], 20) := by
  unfold nodeV
  rw [if_neg]
  rintro ⟨h1, h2, h3⟩
  rw [(alone_iff.1 h1).2, h3, show decide ((gs.length : Int) = arityV op) = true by simpa using h2] at h
  cases h
theorem node_yes {op : Int} {nums : List Int} {gs : List (List Int)} (h : (decide ((gs.length : Int) = arityV op) && (numsB (op, [], nums) && gs.all okS)) = true) : nodeV op nums gs = kindV op nums (gs.getD 0 []) (gs.getD 1 []) ∧ (gs.length : Int) = arityV op ∧ numsB (op, [], nums) = true ∧ gs.all okS = true := by
  rw [Bool.and_eq_true, Bool.and_eq_true, decide_eq_true_iff] at h
  obtain ⟨h1, h2, h3⟩ := h
  unfold nodeV
  rw [if_pos ⟨alone_iff.2 ⟨by omega, h2⟩, h1, h3⟩]
  exact ⟨rfl, h1, h2, h3⟩
/-- Two cells, of so many lists. -/
theorem pair_of {W : World} {X : Nat → Prop} {vs : List Value} {gs : List (List Int)} (hv : AllL W X vs gs) (h2 : gs.length ≤ 2) :
    ∃ A0 c0 A1 c1, splice [.slice none 0 0, .slice none 0 0] 0 vs = [.slice A0 (gs.getD 0 []).length c0, .slice A1 (gs.getD 1 []).length c1] ∧ Rd W A0 (gs.getD 0 []) ∧ Rd W A1 (gs.getD 1 []) := by
  have hl := hv.len
  match vs, gs, hv, hl, h2 with
  | [], [], _, _, _ => exact ⟨none, 0, none, 0, by simp [splice], Rd.nil _ _, Rd.nil _ _⟩
  | [p], [a], hv, _, _ =>
    obtain ⟨P, c, rfl, _, _, r, _⟩ := hv.at_ 0 p a rfl rfl
    exact ⟨P, c, none, 0, by simp [splice], r, Rd.nil _ _⟩
  | [p, q], [a, b], hv, _, _ =>
    obtain ⟨P, c, rfl, _, _, r, _⟩ := hv.at_ 0 p a rfl rfl
    obtain ⟨R, d, rfl, _, _, s, _⟩ := hv.at_ 1 q b rfl rfl
    exact ⟨P, c, R, d, by simp [splice], r, s⟩
  | [], b :: _, _, hl, _ => simp at hl
  | _ :: _, [], _, hl, _ => simp at hl
  | [_], _ :: _ :: _, _, hl, _ => simp at hl
  | _ :: _ :: _, [_], _, hl, _ => simp at hl
  | _ :: _ :: _ :: _, [_, _], _, hl, _ => simp at hl
  | _, _ :: _ :: _ :: _, _, _, h2 => simp at h2

set_option maxRecDepth 100000 in
theorem node_i (op : Int) (nums : List Int) (P Q A : Option Addr) (n c m d na e : Nat) (gs : List (List Int)) (w : World) (hQ : Rd w Q nums) (hA : RdL w A gs) (hm : m = nums.length) (hd : m ≤ d ∧ d ≤ 9223372036854775807) (hna : na = gs.length) (he : na ≤ e ∧ e ≤ 9223372036854775807) (hw : W64 nums) (hl : nums.length ≤ 100) :
    Calls Try.prog 11 #[.agg #[.int .i64 op, .slice P n c, .slice Q m d], .slice A na e] w (RetI (nodeV op nums gs) w) := by
  have K0 : Hid (Kp w (w.alloc (.cells #[.int .i64 op, .slice P n c, .slice Q m d] 25))) := Kp.alloc_ _ _
  have F0 : Hid (Nb (w.alloc (.cells #[.int .i64 op, .slice P n c, .slice Q m d] 25)) w.heap.size op P n c Q m d) := Nb.new rfl
  have x0 := F0.out.c0
  have x1 := F0.out.c1
  have x2 := F0.out.c2
  cases hb : (decide ((gs.length : Int) = arityV op) && (numsB (op, [], nums) && gs.all okS)) with
  | false =>
    rw [node_no hb]
    have HMB := Lib.hid (maybe_i op nums P Q A n c m d na e gs false _ (hQ.kp K0.out) (hA.kp K0.out) hm hd hna he (by rw [hna]; exact hb))
    clear hb hm hna hQ hA hw hl hd
    go_enter Try.func11, Try.ntmps11
    go_wp2_with fail
    refine HMB.out.mono ?_; rintro e0 w1 ⟨rfl, k1⟩
    have K1 := Lib.hid (K0.out.tr k1)
    clear k1
    go_wp2
    go_ret2
    exact RetI.err_ rfl K1.out
  | true =>
    have HMB := Lib.hid (maybe_i op nums P Q A n c m d na e gs true _ (hQ.kp K0.out) (hA.kp K0.out) hm hd hna he (by rw [hna]; exact hb))
    obtain ⟨e1, e2, e3, e4⟩ := node_yes hb
    rw [e1]
    have hle : na ≤ 2 := by have := arity_le op; omega
    obtain ⟨a, ha⟩ : ∃ a, a = gs.getD 0 [] := ⟨_, rfl⟩
    obtain ⟨b, hbb⟩ : ∃ b, b = gs.getD 1 [] := ⟨_, rfl⟩
    have HOK : Hid (okS a = true ∧ okS b = true) := ⟨by rw [ha]; exact ok_getD e4 0, by rw [hbb]; exact ok_getD e4 1⟩
    have HAR : Hid (0 ≤ arityV op ∧ numsB (op, [], nums) = true) := ⟨by omega, e3⟩
    rw [← ha, ← hbb]
    have HAB : Hid (∀ V X vs, AllL V X vs gs → ∃ A0 c0 A1 c1, splice [.slice none 0 0, .slice none 0 0] 0 vs = [.slice A0 a.length c0, .slice A1 b.length c1] ∧ Rd V A0 a ∧ Rd V A1 b) := fun V X vs hv => by rw [ha, hbb]; exact pair_of hv (by omega)
    obtain ⟨_, vs, hvs, hcells⟩ := hA
    obtain ⟨A0, c0, A1, c1, hsp, ra, rb⟩ := HAB.out _ _ _ hvs
    have HSP := Lib.hid hsp
    have HRA := Lib.hid ra
    have HRB := Lib.hid rb
    have HVL : Hid (vs.length = na) := by show _ = _; rw [hvs.len, hna]
    have HON : Hid (∀ v ∈ vs, v.oneCell' = true) := fun v hv => by
      obtain ⟨j, hj⟩ := List.mem_iff_getElem?.1 hv
      have hl := (List.getElem?_eq_some_iff.1 hj).1
      rw [hvs.len] at hl
      obtain ⟨P, c, e, _⟩ := hvs.at_ j v _ hj (List.getElem?_eq_getElem hl)
      subst e
      rfl
    have HCL : Hid (0 < vs.length → ∃ ad, A = some ad ∧ ad.block < w.heap.size ∧ ∀ j u, vs[j]? = some u → w.cell? (ad.add j) = some u) := fun h => hcells (by rw [← hvs.len]; exact h)
    have HRQ := Lib.hid hQ
    have HM := Lib.hid hm
    have HW := Lib.hid (And.intro hw hl)
    have HD := Lib.hid hd
    have hs1 : (Try.prog.info? 23).map (·.size) = some 1 := by kernel_rfl
    clear hb e1 e2 e3 e4 ha hbb HAB hcells hsp ra rb hvs hm hna hQ hw hl hd
    go_enter Try.func11, Try.ntmps11
    go_wp2_with fail
    refine HMB.out.mono ?_; rintro e0 w1 ⟨rfl, k1⟩
    have K1 := Lib.hid (K0.out.tr k1)
    have F1 := Lib.hid (F0.out.kp k1)
    have y0 := F1.out.c0
    have y2 := F1.out.c2
    have hrow : (w1.alloc (.cells #[.slice none 0 0, .slice none 0 0] 45)).heap[w1.heap.size]? = some (.cells ([.slice none 0 0, .slice none 0 0] : List Value).toArray 45 (0, 0)) := World.alloc_heap_new w1 _
    have hpos : Hid (0 < vs.length → ∃ ad, A = some ad ∧ ∀ j v, vs[j]? = some v → (w1.alloc (.cells #[.slice none 0 0, .slice none 0 0] 45)).cell? (ad.add j) = some v) := fun h => by
      obtain ⟨ad, e, hlt, hc⟩ := HCL.out h
      exact ⟨ad, e, fun j v hj => ((K1.out.tr (Kp.alloc_ _ _)).cell (by rw [block_of_add]; exact hlt)).trans (hc j v hj)⟩
    clear k1 x0 x1 x2
    have hbl : Hid (Below w1.heap.size w1 (w1.alloc (.cells #[.slice none 0 0, .slice none 0 0] 45))) := Kp.alloc_ _ _
    have hmin : Hid (vs.length = Nat.min na 2) := by show _ = min na 2; rw [HVL.out]; omega
    have hfit : Hid (0 + vs.length ≤ [Value.slice none 0 0, Value.slice none 0 0].length) := by show 0 + vs.length ≤ 2; rw [HVL.out]; omega
    go_wp2_with (refine wpList_copy_splice rfl (.tmp 12) (.tmp 13) 26 26 rfl 23 Try.underlying26 hs1 _ _ _ _ _ _ rfl rfl w1.heap.size 0 [.slice none 0 0, .slice none 0 0] 45 hrow vs hmin.out (fun h => ⟨rfl, hpos.out h⟩) hfit.out HON.out w1.heap.size w1 hbl.out (Nat.le_refl _) ?_; intro w2 hg2 hb2; have K2 := Lib.hid hb2; have G2 := Lib.hid hg2; clear hb2 hg2)
    have G3 : w2.heap[w1.heap.size]? = some (.cells #[.slice A0 a.length c0, .slice A1 b.length c1] 45 (0, 0)) := by
      have h := G2.out
      rw [HSP.out] at h
      exact h
    have KW := Lib.hid (K1.out.tr K2.out)
    have s0 : w2.cell? ⟨w.heap.size, 0, none⟩ = some (.int .i64 op) := (F1.out.kp K2.out).c0
    have s1 : w2.cell? ⟨w.heap.size, 2, none⟩ = some (.slice Q m d) := (F1.out.kp K2.out).c2
    have s2 : w2.cell? ⟨w1.heap.size, 0, none⟩ = some (.slice A0 a.length c0) := by simp [World.cell?, G3]
    have s3 : w2.cell? ⟨w1.heap.size, 1, none⟩ = some (.slice A1 b.length c1) := by simp [World.cell?, G3]
    have HSS : Hid (∀ V, Kp w2 V → V.cell? ⟨w.heap.size, 0, none⟩ = some (.int .i64 op) ∧ V.cell? ⟨w.heap.size, 2, none⟩ = some (.slice Q m d) ∧ V.cell? ⟨w1.heap.size, 0, none⟩ = some (.slice A0 a.length c0) ∧ V.cell? ⟨w1.heap.size, 1, none⟩ = some (.slice A1 b.length c1)) := fun V kV =>
      ⟨kp_cell s0 kV, kp_cell s1 kV, kp_cell s2 kV, kp_cell s3 kV⟩
    have HRU : Hid (∀ V, Kp w2 V → Calls Try.prog 21 #[.slice Q m d, .slice A0 a.length c0, .slice A1 b.length c1] V fun e0 W' => ∃ g f L, e0 = .returned (.map (some g)) ∧ Hid (Kp w W') ∧ (W'.cell? ⟨w.heap.size, 0, none⟩ = some (.int .i64 op) ∧ W'.cell? ⟨w.heap.size, 2, none⟩ = some (.slice Q m d) ∧ W'.cell? ⟨w1.heap.size, 0, none⟩ = some (.slice A0 a.length c0) ∧ W'.cell? ⟨w1.heap.size, 1, none⟩ = some (.slice A1 b.length c1)) ∧ (Instr.lookup 48 (.map (some g)) (.int .i64 op) false).run Try.prog W' = .ok (.func (.func f) #[] L) W' ∧ (∀ args W, (callFunc f args).run Try.prog W = .ok (.enter f args) W) ∧ Hid (Calls Try.prog f L W' (RetI (kindV op nums a b) w))) := fun V kV =>
      (rules_any Q A0 A1 m d a.length c0 b.length c1 V).mono fun e0 W' ⟨g, e1, hmd, k3, q0, q1, q2⟩ => by
        have kw : Kp w W' := (KW.out.tr kV).tr k3
        obtain ⟨f, L, hat, hcf, hcl⟩ := rule_fn (op := op) (W := W') (bn := V.heap.size) (ba := V.heap.size + 1) (bb := V.heap.size + 1 + 1) (Q := Q) (A := A0) (B := A1) (d := d) (c := c0) (e := c1) (nums := nums) (a := a) (b := b)
          ⟨by rw [← HM.out]; exact q0, q1, q2, HRQ.out.kp kw, HRA.out.kp kw, HRB.out.kp kw, by rw [← HM.out]; exact HD.out, HOK.out.1, HOK.out.2, HW.out.1, HW.out.2⟩ HAR.out.1 HAR.out.2
        exact ⟨g, f, L, e1, kw, HSS.out _ (kV.tr k3), Md.getR hmd Try.underlying48 Try.underlying3 hat, hcf, hcl.mono fun _ _ h => h.back kw⟩
    have KD : Hid (Kp w2 w2.drew) := Below.drew (Kp.refl w2)
    clear hrow G3 y0 y2
    go_wp2
    go_region_held3 (fun V => V.cell? ⟨w.heap.size, 0, none⟩ = some (.int .i64 op) ∧ V.cell? ⟨w.heap.size, 2, none⟩ = some (.slice Q m d) ∧ V.cell? ⟨w1.heap.size, 0, none⟩ = some (.slice A0 a.length c0) ∧ V.cell? ⟨w1.heap.size, 1, none⟩ = some (.slice A1 b.length c1)) (first | exact ⟨s0, s1, s2, s3⟩ | exact hS3)
      (first | (go_at_call 21; refine (HRU.out _ KD.out).mono ?_; rintro e0 w3 ⟨g, f, L, rfl, K3, hS3, hlk, hcf, HCL3⟩; have HS4 := Lib.hid hS3))
    all_goals
      go_wp2_with fail
      refine HCL3.out.mono ?_; rintro e1 w4 ⟨A5, c5, rfl, S5, N5, K5⟩
      have S6 := Lib.hid S5
      have N6 := Lib.hid N5
      have K6 := Lib.hid K5
      clear S5 N5 K5
      go_wp2
      go_ret2
      exact ⟨A5, c5, rfl, S6.out, N6.out, K6.out⟩
end Go.Proofs.Ytnkkkpanlnencaa.Iz
