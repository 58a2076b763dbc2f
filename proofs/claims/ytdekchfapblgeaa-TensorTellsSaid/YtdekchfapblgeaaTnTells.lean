/- Whether a tensor may be, the number at an index, with another there, stretched and folded, are the document's: the law's call returns true. -/
import Derived.Test.YtdekchfapblgeaaTnBk
import Derived.Deep.RegionHeld3
namespace Go.Proofs.Ytdekchfapblgeaa
open Go.RowKit Go.Proofs.ShM

set_option maxHeartbeats 8000000 in
set_option maxRecDepth 100000 in
theorem ttells_with (A B C D : Option Addr) (c d e h n m o p : Nat) (x : Int) (w : World) (hn : n ≤ 100) (hm : m ≤ 100) (ho : o ≤ 100) (hp : p ≤ 100)
    (l1 k1 l2 k2 l3 k3 l4 k4 : List Int) (a1 b1 a2 b2 a3 b3 a4 b4 : Nat) (e1 e2 e3 e4 y5 e5 : Int) (r6 : Bool) (L1 : Hid (l1.length = a1 ∧ k1.length = b1)) (L2 : Hid (l2.length = a2 ∧ k2.length = b2)) (L3 : Hid (l3.length = a3 ∧ k3.length = b3)) (L4 : Hid (l4.length = a4 ∧ k4.length = b4))
    (C1 : Hid (∀ W, Kp w W → Calls Try.prog 11 #[.slice C o e, .int .i64 x] W (RetU l1 k1 a1 b1 e1 W)))
    (D1 : Hid (∀ W, Kp w W → Calls Try.prog 12 #[.slice C o e, .int .i64 x] W (RetU l1 k1 a1 b1 e1 W)))
    (C2 : Hid (∀ W, Kp w W → Calls Try.prog 14 #[.agg #[.slice A n c, .slice B m d], .slice D p h, .int .i64 x] W (RetU l2 k2 a2 b2 e2 W)))
    (D2 : Hid (∀ W, Kp w W → Calls Try.prog 15 #[.agg #[.slice A n c, .slice B m d], .slice D p h, .int .i64 x] W (RetU l2 k2 a2 b2 e2 W)))
    (C3 : Hid (∀ W, Kp w W → Calls Try.prog 16 #[.agg #[.slice A n c, .slice B m d], .slice C o e] W (RetU l3 k3 a3 b3 e3 W)))
    (D3 : Hid (∀ W, Kp w W → Calls Try.prog 17 #[.agg #[.slice A n c, .slice B m d], .slice C o e] W (RetU l3 k3 a3 b3 e3 W)))
    (C4 : Hid (∀ W, Kp w W → Calls Try.prog 18 #[.agg #[.slice A n c, .slice B m d], .slice C o e] W (RetU l4 k4 a4 b4 e4 W)))
    (D4 : Hid (∀ W, Kp w W → Calls Try.prog 19 #[.agg #[.slice A n c, .slice B m d], .slice C o e] W (RetU l4 k4 a4 b4 e4 W)))
    (C5 : Hid (∀ W, Kp w W → Calls Try.prog 20 #[.agg #[.slice A n c, .slice B m d], .slice D p h] W (RetK y5 e5 W)))
    (D5 : Hid (∀ W, Kp w W → Calls Try.prog 21 #[.agg #[.slice A n c, .slice B m d], .slice D p h] W (RetK y5 e5 W)))
    (C6 : Hid (∀ W, Kp w W → Calls Try.prog 22 #[.agg #[.slice A n c, .slice B m d]] W fun e w' => e = .returned (.bool r6) ∧ Kp W w'))
    (D6 : Hid (∀ W, Kp w W → Calls Try.prog 23 #[.agg #[.slice A n c, .slice B m d]] W fun e w' => e = .returned (.bool r6) ∧ Kp W w')) :
    Calls Try.prog 3 #[.agg #[.slice A n c, .slice B m d], .slice C o e, .slice D p h, .int .i64 x] w fun e w' => e = .returned (.bool true) ∧ Kp w w' := by
  go_enter Try.func3, Try.ntmps3
  go_wp2_with fail
  refine (tnawake_any _).mono ?_; rintro e0 w0 ⟨rfl, k0⟩
  have K := Lib.hid ((Kp.alloc_ _ _).tr k0)
  have TB : Hid (Bk w0 w.heap.size A n c B m d) := (Bk.new rfl).kp k0
  clear k0
  have t0 := TB.out.c0
  have t1 := TB.out.c1
  go_wp2_with fail
  refine (few_yes hn hm).mono ?_; rintro e0 w1 ⟨rfl, k1⟩
  have K := Lib.hid (K.out.tr k1)
  have TB := Lib.hid (TB.out.kp k1)
  clear k1 t0 t1
  go_wp2_with fail
  refine (C1.out _ K.out).mono ?_; rintro e0 w2 ⟨A2, c2, B2, d2, rfl, r2, k2⟩
  have K := Lib.hid (K.out.tr k2)
  have TB := Lib.hid (TB.out.kp k2)
  have RA := Lib.hid r2
  clear k2 r2
  go_wp2_with fail
  refine (D1.out _ (K.out.al _)).mono ?_; rintro e0 w3 ⟨A3, c3, B3, d3, rfl, r3, k3⟩
  have K := Lib.hid ((K.out.al _).tr k3)
  have H1 : Hid (w.heap.size < w2.heap.size) := TB.out.lt
  have TB := Lib.hid ((TB.out.alloc_ _).kp k3)
  have RA := Lib.hid ((RA.out.alloc_ _).kp k3)
  have AB : Hid (Bk w3 w2.heap.size A2 a1 c2 B2 b1 d2) := (Bk.new rfl).kp k3
  have RB := Lib.hid r3
  clear k3 r3
  have H2 : Hid (w2.heap.size < w3.heap.size) := AB.out.lt
  have s0 := AB.out.c0
  have s1 := AB.out.c1
  have h23 : w2.heap.size < w3.heap.size := H2.out
  go_wp2_with fail
  refine (tsame_u (RA.out.alloc_ _) (RB.out.alloc_ _) L1.out.1 L1.out.2).mono ?_; rintro e0 w4 ⟨rfl, k4⟩
  have K := Lib.hid ((K.out.al _).tr k4)
  have TB := Lib.hid ((TB.out.alloc_ _).kp k4)
  have AB := Lib.hid ((AB.out.alloc_ _).kp k4)
  have BB : Hid (Bk w4 w3.heap.size A3 a1 c3 B3 b1 d3) := (Bk.new rfl).kp k4
  clear k4 s0 s1 h23 RA RB
  have x12 : w.heap.size ≠ w2.heap.size := by have := H1.out; omega
  have x21 : w2.heap.size ≠ w.heap.size := by have := H1.out; omega
  have x13 : w.heap.size ≠ w3.heap.size := by have := H1.out; have := H2.out; omega
  have x31 : w3.heap.size ≠ w.heap.size := by have := H1.out; have := H2.out; omega
  have x23 : w2.heap.size ≠ w3.heap.size := by have := H2.out; omega
  have x32 : w3.heap.size ≠ w2.heap.size := by have := H2.out; omega
  have q2 : Hid (w.heap.size ≤ w2.heap.size) := Nat.le_of_lt H1.out
  have q3 : Hid (w.heap.size ≤ w3.heap.size) := Nat.le_of_lt (Nat.lt_trans H1.out H2.out)
  have t0 := TB.out.c0
  have t1 := TB.out.c1
  have u0 := AB.out.c0
  have u1 := AB.out.c1
  have uf := AB.out.f0
  have v0 := BB.out.c0
  have v1 := BB.out.c1
  have vf := BB.out.f0
  go_wp2_with fail
  refine (C2.out _ K.out).mono ?_; rintro e0 w5 ⟨A5, c5, B5, d5, rfl, rt5, kt5⟩
  have K := Lib.hid (K.out.tr kt5)
  have TB := Lib.hid (TB.out.kp kt5)
  have AB := Lib.hid (AB.out.kp kt5)
  have BB := Lib.hid (BB.out.kp kt5)
  have RA := Lib.hid rt5
  clear kt5 rt5
  clear t0 t1 u0 u1 uf v0 v1 vf
  have t0 := TB.out.c0
  have t1 := TB.out.c1
  have u0 := AB.out.c0
  have u1 := AB.out.c1
  have uf := AB.out.f0
  have v0 := BB.out.c0
  have v1 := BB.out.c1
  have vf := BB.out.f0
  go_wp2_with fail
  refine (D2.out _ ((K.out.setCell (p := ⟨w2.heap.size, 0, none⟩) q2.out _).setCell (p := ⟨w2.heap.size, 1, none⟩) q2.out _)).mono ?_; rintro e0 w6 ⟨A6, c6, B6, d6, rfl, rt6, kt6⟩
  have K := Lib.hid (Kp.tr ((K.out.setCell (p := ⟨w2.heap.size, 0, none⟩) q2.out _).setCell (p := ⟨w2.heap.size, 1, none⟩) q2.out _) kt6)
  have TB := Lib.hid ((TB.out.other x12 _ _).kp kt6)
  have RA := Lib.hid ((RA.out.past AB.out _ _).kp kt6)
  have AB := Lib.hid (AB.out.put.kp kt6)
  have BB := Lib.hid ((BB.out.other x32 _ _).kp kt6)
  have RB := Lib.hid rt6
  clear kt6 rt6
  clear t0 t1 u0 u1 uf v0 v1 vf
  have t0 := TB.out.c0
  have t1 := TB.out.c1
  have u0 := AB.out.c0
  have u1 := AB.out.c1
  have uf := AB.out.f0
  have v0 := BB.out.c0
  have v1 := BB.out.c1
  have vf := BB.out.f0
  go_wp2_with fail
  refine (tsame_u (RA.out.past BB.out _ _) (RB.out.past BB.out _ _) L2.out.1 L2.out.2).mono ?_; rintro e0 w7 ⟨rfl, kt7⟩
  have K := Lib.hid (Kp.tr ((K.out.setCell (p := ⟨w3.heap.size, 0, none⟩) q3.out _).setCell (p := ⟨w3.heap.size, 1, none⟩) q3.out _) kt7)
  have TB := Lib.hid ((TB.out.other x13 _ _).kp kt7)
  have AB := Lib.hid ((AB.out.other x23 _ _).kp kt7)
  have BB := Lib.hid (BB.out.put.kp kt7)
  clear kt7 RA RB
  clear t0 t1 u0 u1 uf v0 v1 vf
  have t0 := TB.out.c0
  have t1 := TB.out.c1
  have u0 := AB.out.c0
  have u1 := AB.out.c1
  have uf := AB.out.f0
  have v0 := BB.out.c0
  have v1 := BB.out.c1
  have vf := BB.out.f0
  go_wp2_with fail
  refine (C3.out _ K.out).mono ?_; rintro e0 w8 ⟨A8, c8, B8, d8, rfl, rt8, kt8⟩
  have K := Lib.hid (K.out.tr kt8)
  have TB := Lib.hid (TB.out.kp kt8)
  have AB := Lib.hid (AB.out.kp kt8)
  have BB := Lib.hid (BB.out.kp kt8)
  have RA := Lib.hid rt8
  clear kt8 rt8
  clear t0 t1 u0 u1 uf v0 v1 vf
  have t0 := TB.out.c0
  have t1 := TB.out.c1
  have u0 := AB.out.c0
  have u1 := AB.out.c1
  have uf := AB.out.f0
  have v0 := BB.out.c0
  have v1 := BB.out.c1
  have vf := BB.out.f0
  go_wp2_with fail
  refine (D3.out _ ((K.out.setCell (p := ⟨w2.heap.size, 0, none⟩) q2.out _).setCell (p := ⟨w2.heap.size, 1, none⟩) q2.out _)).mono ?_; rintro e0 w9 ⟨A9, c9, B9, d9, rfl, rt9, kt9⟩
  have K := Lib.hid (Kp.tr ((K.out.setCell (p := ⟨w2.heap.size, 0, none⟩) q2.out _).setCell (p := ⟨w2.heap.size, 1, none⟩) q2.out _) kt9)
  have TB := Lib.hid ((TB.out.other x12 _ _).kp kt9)
  have RA := Lib.hid ((RA.out.past AB.out _ _).kp kt9)
  have AB := Lib.hid (AB.out.put.kp kt9)
  have BB := Lib.hid ((BB.out.other x32 _ _).kp kt9)
  have RB := Lib.hid rt9
  clear kt9 rt9
  clear t0 t1 u0 u1 uf v0 v1 vf
  have t0 := TB.out.c0
  have t1 := TB.out.c1
  have u0 := AB.out.c0
  have u1 := AB.out.c1
  have uf := AB.out.f0
  have v0 := BB.out.c0
  have v1 := BB.out.c1
  have vf := BB.out.f0
  go_wp2_with fail
  refine (tsame_u (RA.out.past BB.out _ _) (RB.out.past BB.out _ _) L3.out.1 L3.out.2).mono ?_; rintro e0 w10 ⟨rfl, kt10⟩
  have K := Lib.hid (Kp.tr ((K.out.setCell (p := ⟨w3.heap.size, 0, none⟩) q3.out _).setCell (p := ⟨w3.heap.size, 1, none⟩) q3.out _) kt10)
  have TB := Lib.hid ((TB.out.other x13 _ _).kp kt10)
  have AB := Lib.hid ((AB.out.other x23 _ _).kp kt10)
  have BB := Lib.hid (BB.out.put.kp kt10)
  clear kt10 RA RB
  clear t0 t1 u0 u1 uf v0 v1 vf
  have t0 := TB.out.c0
  have t1 := TB.out.c1
  have u0 := AB.out.c0
  have u1 := AB.out.c1
  have uf := AB.out.f0
  have v0 := BB.out.c0
  have v1 := BB.out.c1
  have vf := BB.out.f0
  go_wp2_with fail
  refine (C4.out _ K.out).mono ?_; rintro e0 w11 ⟨A11, c11, B11, d11, rfl, rt11, kt11⟩
  have K := Lib.hid (K.out.tr kt11)
  have TB := Lib.hid (TB.out.kp kt11)
  have AB := Lib.hid (AB.out.kp kt11)
  have BB := Lib.hid (BB.out.kp kt11)
  have RA := Lib.hid rt11
  clear kt11 rt11
  clear t0 t1 u0 u1 uf v0 v1 vf
  have t0 := TB.out.c0
  have t1 := TB.out.c1
  have u0 := AB.out.c0
  have u1 := AB.out.c1
  have uf := AB.out.f0
  have v0 := BB.out.c0
  have v1 := BB.out.c1
  have vf := BB.out.f0
  go_wp2_with fail
  refine (D4.out _ ((K.out.setCell (p := ⟨w2.heap.size, 0, none⟩) q2.out _).setCell (p := ⟨w2.heap.size, 1, none⟩) q2.out _)).mono ?_; rintro e0 w12 ⟨A12, c12, B12, d12, rfl, rt12, kt12⟩
  have K := Lib.hid (Kp.tr ((K.out.setCell (p := ⟨w2.heap.size, 0, none⟩) q2.out _).setCell (p := ⟨w2.heap.size, 1, none⟩) q2.out _) kt12)
  have TB := Lib.hid ((TB.out.other x12 _ _).kp kt12)
  have RA := Lib.hid ((RA.out.past AB.out _ _).kp kt12)
  have AB := Lib.hid (AB.out.put.kp kt12)
  have BB := Lib.hid ((BB.out.other x32 _ _).kp kt12)
  have RB := Lib.hid rt12
  clear kt12 rt12
  clear t0 t1 u0 u1 uf v0 v1 vf
  have t0 := TB.out.c0
  have t1 := TB.out.c1
  have u0 := AB.out.c0
  have u1 := AB.out.c1
  have uf := AB.out.f0
  have v0 := BB.out.c0
  have v1 := BB.out.c1
  have vf := BB.out.f0
  go_wp2_with fail
  refine (C5.out _ ((K.out.setCell (p := ⟨w3.heap.size, 0, none⟩) q3.out _).setCell (p := ⟨w3.heap.size, 1, none⟩) q3.out _)).mono ?_; rintro e0 w13 ⟨rfl, kt13⟩
  have K := Lib.hid (Kp.tr ((K.out.setCell (p := ⟨w3.heap.size, 0, none⟩) q3.out _).setCell (p := ⟨w3.heap.size, 1, none⟩) q3.out _) kt13)
  have TB := Lib.hid ((TB.out.other x13 _ _).kp kt13)
  have AB := Lib.hid ((AB.out.other x23 _ _).kp kt13)
  have RA := Lib.hid ((RA.out.past BB.out _ _).kp kt13)
  have RB := Lib.hid ((RB.out.past BB.out _ _).kp kt13)
  have BB := Lib.hid (BB.out.put.kp kt13)
  clear kt13
  clear t0 t1 u0 u1 uf v0 v1 vf
  have t0 := TB.out.c0
  have t1 := TB.out.c1
  have u0 := AB.out.c0
  have u1 := AB.out.c1
  have uf := AB.out.f0
  have v0 := BB.out.c0
  have v1 := BB.out.c1
  have vf := BB.out.f0
  go_wp2_with fail
  refine (D5.out _ K.out).mono ?_; rintro e0 w14 ⟨rfl, kt14⟩
  have K := Lib.hid (K.out.tr kt14)
  have TB := Lib.hid (TB.out.kp kt14)
  have AB := Lib.hid (AB.out.kp kt14)
  have BB := Lib.hid (BB.out.kp kt14)
  have RA := Lib.hid (RA.out.kp kt14)
  have RB := Lib.hid (RB.out.kp kt14)
  clear kt14
  clear t0 t1 u0 u1 uf v0 v1 vf
  have t0 := TB.out.c0
  have t1 := TB.out.c1
  have u0 := AB.out.c0
  have u1 := AB.out.c1
  have uf := AB.out.f0
  have v0 := BB.out.c0
  have v1 := BB.out.c1
  have vf := BB.out.f0
  have HSS : Hid (∀ W, Kp w14 W → (fun W => W.cell? ⟨w.heap.size, 0, none⟩ = some (.slice A n c) ∧ W.cell? ⟨w.heap.size, 1, none⟩ = some (.slice B m d) ∧ W.cell? ⟨w2.heap.size, 0, none⟩ = some (.slice A11 a4 c11) ∧ W.cell? ⟨w2.heap.size, 1, none⟩ = some (.slice B11 b4 d11) ∧ W.cell? ⟨w3.heap.size, 0, none⟩ = some (.slice A12 a4 c12) ∧ W.cell? ⟨w3.heap.size, 1, none⟩ = some (.slice B12 b4 d12)) W) := fun W k => ⟨(TB.out.kp k).c0, (TB.out.kp k).c1, (AB.out.kp k).c0, (AB.out.kp k).c1, (BB.out.kp k).c0, (BB.out.kp k).c1⟩
  have K0 : Hid (Kp w14 w14.drew) := Below.drew (Kp.refl _)
  go_wp2
  go_region_held3 (fun W => W.cell? ⟨w.heap.size, 0, none⟩ = some (.slice A n c) ∧ W.cell? ⟨w.heap.size, 1, none⟩ = some (.slice B m d) ∧ W.cell? ⟨w2.heap.size, 0, none⟩ = some (.slice A11 a4 c11) ∧ W.cell? ⟨w2.heap.size, 1, none⟩ = some (.slice B11 b4 d11) ∧ W.cell? ⟨w3.heap.size, 0, none⟩ = some (.slice A12 a4 c12) ∧ W.cell? ⟨w3.heap.size, 1, none⟩ = some (.slice B12 b4 d12)) (first | exact HSS.out _ KS3.out | exact HSS.out _ KS2.out | exact HSS.out _ KS1.out | exact HSS.out _ K0.out)
    (first
    | (go_at_call 13; refine (tsame_u (RA.out.kp K0.out) (RB.out.kp K0.out) L4.out.1 L4.out.2).mono ?_; rintro e0 wa ⟨rfl, ka⟩; have KS1 := Lib.hid (K0.out.tr ka); clear ka)
    | (go_at_call 22; refine (C6.out _ (K.out.tr KS1.out)).mono ?_; rintro e0 wb ⟨rfl, kb⟩; have KS2 := Lib.hid (KS1.out.tr kb); clear kb)
    | (go_at_call 23; refine (D6.out _ (K.out.tr KS2.out)).mono ?_; rintro e0 wc ⟨rfl, kc⟩; have KS3 := Lib.hid (KS2.out.tr kc); clear kc))
  all_goals
    go_wp2
    go_ret
    exact ⟨rfl, K.out.tr KS3.out⟩
end Go.Proofs.Ytdekchfapblgeaa
