/- Layer 11: the law's first calls. -/
import Derived.Test.YtnkkkpanlnencaaInC
namespace Go.Proofs.Ytnkkkpanlnencaa
open Go.RowKit Go.Proofs.ShM Go.Proofs.GrM Go.Proofs.InM
set_option linter.unusedVariables false

def LB : List Nd := [(1, [], [2, 3]), (41, [0], []), (30, [0, 1], [])]
def LB2 : List Nd := LB ++ [(10, [0, 1], [])]
/-- One node, of two Args, in a row behind rows of the call's own. -/
theorem node_row11 {B : Nat} {w : World} {v : Value} {ts : List Nd} {op x y : Int} (o : OwnN B w v ts) :
    RdN ((w.alloc (.cells #[.int .i64 x, .int .i64 y] 3)).alloc (.cells #[.int .i64 op, .slice (some ⟨w.heap.size, 0, none⟩) 2 2, .slice none 0 0] 25)) (fun k => v.ownBlock ≠ some k) (some ⟨w.heap.size + 1, 0, none⟩) [(op, [x, y], ([] : List Int))] := by
  have hx : v.ownBlock ≠ some w.heap.size := fun e => by have := o.row_lt e; omega
  have h := RdN.one (X := fun k => v.ownBlock ≠ some k) (t := (op, [x, y], ([] : List Int))) (P := some ⟨w.heap.size, 0, none⟩) (Q := none) (c := 2) (d := 0) ⟨Rd.two w x y 3, Rd.nil _ _, fun ad e _ => by injection e with e; rw [← e]; exact hx, fun ad e _ => by cases e⟩ ⟨by show 2 ≤ 2; omega, by omega⟩ ⟨by show 0 ≤ 0; omega, by omega⟩ 25
  rw [World.size_alloc] at h
  exact h
theorem not_new11 {w : World} {n c k : Nat} (hk : k < w.heap.size) (e : (Value.slice (some ⟨w.heap.size, 0, none⟩) n c).ownBlock = some k) : False := by
  have e' : w.heap.size = k := by simpa [Value.ownBlock] using e
  omega
set_option maxHeartbeats 8000000 in
set_option maxRecDepth 100000 in
theorem inawake_any (C : InC) (w : World) : Calls Try.prog 8 #[] w fun e w' => e = .returned (.bool true) ∧ Kp w w' := by
  have HC := Lib.hid C
  have hsm2 : SmallG LB2 := by
    refine ⟨by decide, fun t ht => ?_⟩
    simp only [LB2, LB, List.cons_append, List.nil_append, List.mem_cons, List.not_mem_nil, or_false] at ht
    rcases ht with rfl | rfl | rfl | rfl <;> refine ⟨by decide, by decide, ?_, ?_, ?_⟩ <;> intro x hx <;> simp at hx <;> omega
  have hsm : SmallG LB := ⟨by decide, fun t ht => hsm2.2 t (List.mem_append_left _ ht)⟩
  have v1 : shapesV LB = ([[2, 3], [3, 2], [2, 2]], -1, 0) := by decide +kernel
  have v2 : shapesV LB2 = ([], 3, 20) := by decide +kernel
  have v3 : shapesV [] = ([], -1, 100) := by decide +kernel
  have v4 : nodeV 50 [0] [[2, 3]] = ([3], 0) := by decide +kernel
  have HV := Lib.hid (And.intro v1 (And.intro v2 (And.intro v3 v4)))
  have HS := Lib.hid (And.intro hsm (And.intro hsm2 (show SmallG [] from ⟨by decide, fun _ h => by cases h⟩)))
  have HSN : Hid (SmallN (50, [], [0]) ∧ SmallL [[2, 3]]) := ⟨⟨by decide, by decide, ⟨fun x hx => by simp at hx; omega, (fun x hx => by cases hx), fun x hx => by simp at hx; omega⟩⟩, ⟨by decide, fun s hs => by
    have : s = [2, 3] := by simpa using hs
    subst this
    exact ⟨by decide, fun x hx => by simp at hx; omega⟩⟩⟩
  obtain ⟨W4, hW4⟩ : ∃ W4, W4 = (((w.alloc (.cells #[.int .i64 2, .int .i64 3] 3)).alloc (.cells #[.int .i64 0] 3)).alloc (.cells #[.int .i64 0, .int .i64 1] 3)).alloc (.cells #[.int .i64 1, .slice none 0 0, .slice (some ⟨w.heap.size, 0, none⟩) 2 2, .int .i64 41, .slice (some ⟨w.heap.size + 1, 0, none⟩) 1 1, .slice none 0 0, .int .i64 30, .slice (some ⟨w.heap.size + 1 + 1, 0, none⟩) 2 2, .slice none 0 0] 25) := ⟨_, rfl⟩
  have HW4 := Lib.hid hW4
  have hK4 : Kp w W4 := by rw [hW4]; exact gal (gal (gal (Kp.alloc_ _ _) _) _) _
  have r1 : Rd (w.alloc (.cells #[.int .i64 2, .int .i64 3] 3)) (some ⟨w.heap.size, 0, none⟩) [2, 3] := Rd.two w 2 3 _
  have r2 : Rd ((w.alloc (.cells #[.int .i64 2, .int .i64 3] 3)).alloc (.cells #[.int .i64 0] 3)) (some ⟨w.heap.size + 1, 0, none⟩) [0] := by
    have h := Rd.one (w.alloc (.cells #[.int .i64 2, .int .i64 3] 3)) 0 3
    rwa [World.size_alloc] at h
  have r3 : Rd (((w.alloc (.cells #[.int .i64 2, .int .i64 3] 3)).alloc (.cells #[.int .i64 0] 3)).alloc (.cells #[.int .i64 0, .int .i64 1] 3)) (some ⟨w.heap.size + 1 + 1, 0, none⟩) [0, 1] := by
    have h := Rd.two ((w.alloc (.cells #[.int .i64 2, .int .i64 3] 3)).alloc (.cells #[.int .i64 0] 3)) 0 1 3
    rwa [World.size_alloc, World.size_alloc] at h
  have hL : Hid (RdG W4 (some ⟨w.heap.size + 1 + 1 + 1, 0, none⟩) LB) := by
    show RdG _ _ _
    have a3 := AllN.cons (vn_mk (op := 30) (c := 2) (d := 0) r3 (Rd.nil _ none) (by decide) (by decide) (by decide) (by decide)) (AllN.nil_ _ (fun _ => True))
    have a2 := AllN.cons (vn_mk (op := 41) (c := 1) (d := 0) (r2.alloc_ (.cells #[.int .i64 0, .int .i64 1] 3)) (Rd.nil _ none) (by decide) (by decide) (by decide) (by decide)) a3
    have a1 := AllN.cons (vn_mk (op := 1) (c := 0) (d := 2) (Rd.nil _ none) ((r1.alloc_ (.cells #[.int .i64 0] 3)).alloc_ (.cells #[.int .i64 0, .int .i64 1] 3)) (by decide) (by decide) (by decide) (by decide)) a2
    have h := RdN.lit a1 (by decide) 25
    rw [World.size_alloc, World.size_alloc, World.size_alloc] at h
    rw [hW4]
    exact h
  have K0 := Lib.hid hK4
  clear C hsm hsm2 v1 v2 v3 v4 hW4 hK4 r1 r2 r3
  go_enter Try.func8, Try.ntmps8
  go_wp2_with fail
  rw [← HW4.out]
  refine (HC.out.shapes _ 3 3 3 LB _ _ hL.out (by decide) (by decide) HS.out.1 rfl HV.out.1 rfl).mono ?_; rintro e w1 ⟨A1, c1, rfl, s1, l1, k1⟩
  have K1 := Lib.hid (K0.out.tr k1)
  have L1 := Lib.hid (hL.out.kp k1)
  have hO0 := Lib.hid (OwnN.zero w1 (Nat.le_refl _))
  have hR0 : Hid (RdN (w1.alloc (.cells #[] 25)) (fun k => (Value.slice (some ⟨w1.heap.size, 0, none⟩) 0 0).ownBlock ≠ some k) (some ⟨w.heap.size + 1 + 1 + 1, 0, none⟩) LB) := L1.out.old.mono (Kp.alloc_ _ _) (fun k hk _ e => not_new11 hk e)
  have hs0 : Hid (w1.heap.size ≤ (w1.alloc (.cells #[] 25)).heap.size) := by show _ ≤ _; simp
  clear k1
  go_wp2_with (at_builtin; (first
    | (refine wpList_appN (B := w1.heap.size) rfl (.tmp 27) (.tmp 28) rfl _ [] rfl hO0.out _ 3 LB 3 rfl rfl hR0.out (by decide) hs0.out ?_; intro z1 A2 c2 w5 HZ o5 b5 _; have O5 := Lib.hid o5; have K5 : Hid (Kp w1 w5) := (Kp.alloc_ _ _).trans b5
       have O7 : Hid (OwnN w1.heap.size ((w5.alloc (.cells #[.int .i64 0, .int .i64 1] 3)).alloc (.cells #[.int .i64 10, .slice (some ⟨w5.heap.size, 0, none⟩) 2 2, .slice none 0 0] 25)) (.slice A2 z1.length c2) z1) := (O5.out.kp (Kp.alloc_ _ _)).kp (Kp.alloc_ _ _)
       have R7 : Hid (RdN ((w5.alloc (.cells #[.int .i64 0, .int .i64 1] 3)).alloc (.cells #[.int .i64 10, .slice (some ⟨w5.heap.size, 0, none⟩) 2 2, .slice none 0 0] 25)) (fun k => (Value.slice A2 z1.length c2).ownBlock ≠ some k) (some ⟨w5.heap.size + 1, 0, none⟩) [((10 : Int), [0, 1], ([] : List Int))]) := node_row11 O5.out
       have s7 : Hid (w1.heap.size ≤ ((w5.alloc (.cells #[.int .i64 0, .int .i64 1] 3)).alloc (.cells #[.int .i64 10, .slice (some ⟨w5.heap.size, 0, none⟩) 2 2, .slice none 0 0] 25)).heap.size) := (gal (gal K5.out _) _).size
       clear o5 b5)
    | (refine wpList_appN (B := w1.heap.size) rfl (.tmp 29) (.tmp 32) rfl _ z1 rfl O7.out _ 1 [((10 : Int), [0, 1], ([] : List Int))] 1 rfl rfl R7.out (by rw [HZ.out]; decide) s7.out ?_; intro z2 A3 c3 w8 HZ2 o8 b8 _; have O8 := Lib.hid o8; have K8 : Hid (Kp w1 w8) := (gal (gal K5.out _) _).trans b8; clear o8 b8)))
  have hz2 : z2 = LB2 := by rw [HZ2.out, HZ.out]; rfl
  subst hz2
  have M8 := Lib.hid (n_of_own O8.out)
  have K8w := Lib.hid (K1.out.tr K8.out)
  have s8 := Lib.hid (s1.out.kp K8.out)
  clear HZ HZ2 O7 R7 s7 O5 K5 hO0 hR0 hs0 K8 O8
  refine (HC.out.shapes _ _ _ 0 LB2 _ _ M8.out.1 M8.out.2.1 M8.out.2.2 HS.out.2.1 rfl HV.out.2.1 rfl).mono ?_; rintro e w9 ⟨A9, c9, rfl, _, _, k9⟩
  have K9 := Lib.hid (K8w.out.tr k9)
  have s9 := Lib.hid (s8.out.kp k9)
  clear k9
  go_wp2_with fail
  refine (HC.out.shapes none 0 0 0 [] _ _ (RdN.nil_ _ _ _) (by decide) (by decide) HS.out.2.2 rfl HV.out.2.2.1 rfl).mono ?_; rintro e w10 ⟨A10, c10, rfl, _, _, k10⟩
  have K10 := Lib.hid (K9.out.tr k10)
  have s10 := Lib.hid (s9.out.kp k10)
  clear k10
  obtain ⟨W13, hW13⟩ : ∃ W13, W13 = ((w10.alloc (.cells #[.int .i64 0] 3)).alloc (.cells #[.int .i64 2, .int .i64 3] 3)).alloc (.cells #[.slice (some ⟨w10.heap.size + 1, 0, none⟩) 2 2] 23) := ⟨_, rfl⟩
  have HW13 := Lib.hid hW13
  have hq : Hid (Kp w10 W13 ∧ Rd W13 (some ⟨w10.heap.size, 0, none⟩) [0] ∧ RdL W13 (some ⟨w10.heap.size + 1 + 1, 0, none⟩) [[2, 3]]) := by
    have g1 := Rd.one w10 0 3
    have g2 := Rd.two (w10.alloc (.cells #[.int .i64 0] 3)) 2 3 3
    rw [World.size_alloc] at g2
    have g3 := RdLX.lit (AllL.cons (vl_mk (c := 2) g2 (by decide) (by decide)) (AllL.nil_ _ _)) (by decide) 23
    rw [World.size_alloc, World.size_alloc] at g3
    rw [hW13]
    exact ⟨gal (gal (Kp.alloc_ _ _) _) _, (g1.alloc_ _).alloc_ _, g3⟩
  clear hW13
  go_wp2_with fail
  rw [← HW13.out]
  refine (HC.out.node (50, [], [0]) none (some ⟨w10.heap.size, 0, none⟩) (some ⟨w10.heap.size + 1 + 1, 0, none⟩) 0 1 1 0 1 1 1 [[2, 3]] _ _ (Rd.nil _ _) hq.out.2.1 (by decide) (by decide) HSN.out.1 hq.out.2.2 (by decide) HSN.out.2 rfl rfl rfl HV.out.2.2.2 rfl).mono ?_; rintro e w14 ⟨A14, c14, rfl, r14, _, k14⟩
  have K14 := Lib.hid (K10.out.tr (hq.out.1.tr k14))
  have s14 := Lib.hid (s10.out.kp (hq.out.1.tr k14))
  clear k14 hq
  obtain ⟨a0, t2, P2, e2, rfl, _, ht2, hc2, rt2, _, _, _⟩ := s14.out.at_ (k := 2) (by decide)
  have ht2' : [2, 2] = t2 := by simpa using ht2
  subst ht2'
  have hc2' : w14.cell? ⟨a0.block, a0.off + 2, none⟩ = some (.slice P2 2 e2) := by simpa [Addr.add] using hc2
  have RT2 := Lib.hid (rt2.alloc_ (.cells #[.int .i64 2, .int .i64 2] 3))
  have q15 := Lib.hid (Rd.two w14 2 2 3)
  clear hc2 rt2 ht2 s14 s10 s9 s8 s1 L1 hL M8
  go_wp2_with fail
  refine (same_g [2, 2] [2, 2] RT2.out q15.out rfl rfl (r := true) (by decide)).mono ?_; rintro e w15 ⟨rfl, k15⟩
  have K15 := Lib.hid (K14.out.tr (Kp.tr (Kp.alloc_ _ _) k15))
  have r15 := Lib.hid ((r14.out.alloc_ (.cells #[.int .i64 2, .int .i64 2] 3)).kp k15)
  have r16 := Lib.hid (r15.out.alloc_ (.cells #[.int .i64 3] 3))
  have q16 := Lib.hid (Rd.one w15 3 3)
  clear k15
  go_wp2_with fail
  refine (same_g [3] [3] r16.out q16.out rfl rfl (r := true) (by decide)).mono ?_; rintro e w17 ⟨rfl, k17⟩
  have K17 := Lib.hid (K15.out.tr (Kp.tr (Kp.alloc_ _ _) k17))
  clear k17
  go_wp2
  go_ret
  exact ⟨rfl, K17.out⟩
end Go.Proofs.Ytnkkkpanlnencaa
